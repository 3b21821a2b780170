/- Texts laid together: Made8, GoodAt8, GRead8, Open9, DBytes. -/
import Derived.Test.YtinifnpajkldbaaDoorReadB8
import Derived.Test.YtinifnpajkldbaaDoorPk26
import Derived.Test.YtinifnpajkldbaaDoorMake
import Derived.Test.YtinifnpajkldbaaDoorGood8b
import Derived.Test.YtinifnpajkldbaaDoorPk2
import Derived.Test.YtinifnpajkldbaaDoorPk36
import Derived.Test.YtinifnpajkldbaaDoorPk4
import Derived.Deep.RegionHeld3

/- What Make answers, written and read; and a valid delta. -/
namespace Go.Proofs.YtinifnpajkldbaaDoor
open Go.RowKit
set_option linter.unusedSimpArgs false
set_option linter.unusedVariables false

theorem chkL_made : ∀ (o : List Cp), Vals o → chkL o = 0
  | [], _ => rfl
  | c :: o, h => by
    have hp : chkP c = 0 := by
      rcases h c (by simp) with ⟨a, b, c', d⟩ | ⟨a, b, c', d⟩
      · rw [chkP, if_pos a, if_neg (by omega)]
      · rw [chkP, if_neg (by omega), if_pos a, if_neg (by omega), if_neg (by omega)]
    rw [chkL, hp, if_neg (by simp)]
    exact chkL_made o (fun d hd => h d (by simp [hd]))
theorem chkS_made {o : List Cp} (h : Vals o) (hl : o.length ≤ 40) : chkS o = 0 := by rw [chkS, if_neg (by omega), chkL_made o h]
theorem Cp.Val.fits {c : Cp} (h : c.Val) : c.Fits ∧ c.s.size ≤ 150 := by
  rcases h with ⟨a, b, c', d⟩ | ⟨a, b, c', d⟩
  · exact ⟨⟨by omega, by omega, by omega, by omega, by omega⟩, by omega⟩
  · exact ⟨⟨by omega, by omega, by omega, by omega, by omega⟩, by omega⟩
/-- What may be written and is read as it was. -/
structure Plain (o : List Cp) : Prop where
  few : FewS o
  len : o.length ≤ 40
  chk : chkS o = 0
  fits : ∀ c ∈ o, c.Fits
theorem Plain.nil : Plain [] := ⟨⟨by simp, by simp⟩, by simp, rfl, by simp⟩
theorem Made.plain {n : Nat} {o : List Cp} (h : Made n o) : Plain o :=
  ⟨⟨by have := h.len; omega, fun c hc => (h.vals c hc).fits.2⟩, by have := h.len; omega, chkS_made h.vals (by have := h.len; omega), fun c hc => (h.vals c hc).fits.1⟩
theorem Plain.read {o : List Cp} (h : Plain o) : opP (opB o) = (o, 0) := by
  rw [opP_opB o h.len h.fits, h.chk, if_neg (fun h => h rfl)]
theorem opB_size {o : List Cp} (h : FewS o) : (opB o).length ≤ 8051 := by
  have h1 := opB_len o
  have h2 := h.le
  omega
theorem row_cap {w : World} {k : IntKind} {a : Option Addr} {len cap : Nat} {zs : List Int} (h : IsRow k w a len cap zs) : len ≤ cap := by
  rcases h with ⟨rfl, rfl, rfl, rfl⟩ | ⟨ad, rfl, h1, h2, h3, h4, h5⟩ <;> omega
end Go.Proofs.YtinifnpajkldbaaDoor

/- The laws' own Good, laid into a variable of its own. -/
namespace Go.Proofs.YtinifnpajkldbaaDoor
open Go.RowKit
set_option linter.unusedSimpArgs false
set_option linter.unusedVariables false

def GoodR (d : Dl) (n : Nat) (w : World) (e : Ending) (w' : World) : Prop :=
  ∃ v' o' ds, (goodD d).cells v' = ds ∧ e = .returned (.agg ds.toArray) ∧ HasC w' w.heap.size v' o' ∧ Below w.heap.size w w' ∧ (d.k % 3 = 0 → Made n o') ∧ (d.k % 3 ≠ 0 → o' = [])
theorem good8_at (d : Dl) (hd : d.h.length = 32) (v : Value) (cs : List Value) (hcs : d.cells v = cs) (o : List Cp) (w : World) (hv : RC w v o) (n : Nat) (hn : n ≤ 120) (ao : Option Addr) (len cap : Nat) (hns : NS w ao len) (hcap : len ≤ cap) (hlen : len ≤ 9223372036854775807) :
    Calls Tryd.prog 11 #[.agg cs.toArray, .int .i64 n, .slice ao len cap] w (GoodR d n w) := by
  rw [← hcs]
  refine (good8_any d hd v o w hv n hn ao len cap hns hcap hlen).mono ?_
  rintro e w' ⟨v', o', h1, h2, h3, h4, h5⟩
  exact ⟨v', o', _, rfl, h1, h2, h3, h4, h5⟩
/-- The variable s holds a valid delta; d's own still stands in block L. -/
def GoodAt (d : Dl) (v : Value) (L r : Nat) (w : World) (s : Value) (w' : World) : Prop :=
  ∃ g v' o', s = .pointer (some ⟨g, 0, none⟩) ∧ DW w' 30 g (goodD d) v' ∧ HasC w' L v' o' ∧ DW w' 30 L d v ∧ Below L w w' ∧ (d.k % 3 = 0 → Made r o') ∧ (d.k % 3 ≠ 0 → o' = [])
theorem goodAt_store {d : Dl} {v v' : Value} {o' : List Cp} {L r g Bd : Nat} {ds : List Value} {w w5 : World} (hd : d.h.length = 32) (hH : DW w5 30 L d v ∧ Below L w w5) (hB : Blk w5 30 g (Dl.zero.cells (.slice none 0 0))) (hC : HasC w5 Bd v' o')
    (hs : ∀ k, blkOf v' = some k → k ≠ g) (hLg : L < g) (hLB : L ≤ Bd) (hds : (goodD d).cells v' = ds) (h1 : d.k % 3 = 0 → Made r o') (h2 : d.k % 3 ≠ 0 → o' = []) :
    (DW (w5.setCells g 0 ds) 30 L d v ∧ Below L w (w5.setCells g 0 ds)) ∧ GoodAt d v L r w (.pointer (some ⟨g, 0, none⟩)) (w5.setCells g 0 ds) := by
  have a1 : DW (w5.setCells g 0 ds) 30 L d v := hH.1.kept (setCells_heap (by omega) _ _ _)
  have a2 : Below L w (w5.setCells g 0 ds) := below_setCells (by omega) _ _ hH.2
  refine ⟨⟨a1, a2⟩, g, v', o', rfl, ?_, ?_, a1, a2, h1, h2⟩
  · rw [← hds]
    exact (DW.mk Dl.zero_len hB).set_all (goodD d) hd v'
  · refine HasC.mono ?_ hLB
    rcases hC with h | ⟨q, cap, cur, rfl, b1, b2, b3, b4, b5, b6⟩
    · exact .inl h
    · exact .inr ⟨q, cap, cur, rfl, b1, b2, b3, by rw [setCells_heap (hs q rfl)]; exact b4, b5, b6⟩
theorem HasC.apart {w : World} {Bd : Nat} {v : Value} {o : List Cp} (h : HasC w Bd v o) {g : Nat} (hg : g < Bd ∨ w.heap.size ≤ g) : ∀ k, blkOf v = some k → k ≠ g := by
  intro k hk
  have h1 : k < w.heap.size := HasK.blk h hk
  rcases h with ⟨rfl, _⟩ | ⟨q, cap, cur, rfl, b1, b2, b3, b4, b5, b6⟩
  · cases hk
  · cases hk
    have b1' : Bd ≤ q := b1
    have h1' : q < w.heap.size := h1
    show q ≠ g
    omega

theorem one4 {w : World} {Bd : Nat} {v : Value} {o : List Cp} (h : HasC w Bd v o) : v.oneCell' = true := by
  obtain ⟨a, c, rfl⟩ := h.form
  rfl
/-- A load of many cells that a guard asks for. -/
theorem wpList_load_asked {P : Program} {ops : Array Oper} {rest : List Oper} {op : Oper} {a : Act} {w : World} {Q : Exit → Act → World → Prop} (hw : Region.wanted op (yielded ops a.tmps) = true) (ty : TypeId) (x : Operand) (ho : op.op = .load ty x)
    (b o : Nat) (hx : a.eval x = .pointer (some ⟨b, o, none⟩)) (cs : List Value) (d : TypeDesc) (hc : w.rangeAt b o cs)
    (hu : P.underlying ty = some d) (hd : d.isRow = true) (hi : (P.info? ty).map (·.size) = some cs.length)
    (h : wpList P ops Q rest (a.put op.dst (.agg cs.toArray)) w) : wpList P ops Q (op :: rest) a w :=
  wpList_step fun K hK => by rw [if_pos hw]; exact wp_load_mid ty x ho b o hx cs d hc hu hd hi (hK _ _ h)
/-- A valid delta may be written, and is read as it was. -/
theorem good_plain {d : Dl} {r : Nat} {o : List Cp} (h1 : d.k % 3 = 0 → Made r o) (h2 : d.k % 3 ≠ 0 → o = []) : Plain o := by
  by_cases h : d.k % 3 = 0
  · exact (h1 h).plain
  · rw [h2 h]; exact Plain.nil
end Go.Proofs.YtinifnpajkldbaaDoor

/- What the laws' own Good makes may be written, and is read as it was (chapter 8). -/
namespace Go.Proofs.YtinifnpajkldbaaDoor
open Go.RowKit
set_option linter.unusedSimpArgs false
set_option linter.unusedVariables false

theorem good_fits {d : Dl} (h : d.h.length = 32) : (goodD d).Fits := by
  refine ⟨?_, ?_, ?_, h⟩
  · intro x hx
    replace hx : x ∈ [d.aD % 3, d.aU % 8, d.id % 1073741825, d.ver % 1048577, if d.k % 3 = 0 then 0 else d.wD % 3, if d.k % 3 = 0 then 0 else d.wU % 8] := hx
    by_cases h0 : d.k % 3 = 0
    · simp only [if_pos h0, List.mem_cons, List.not_mem_nil, or_false] at hx
      omega
    · simp only [if_neg h0, List.mem_cons, List.not_mem_nil, or_false] at hx
      omega
  · have : (goodD d).k = 1 + d.k % 3 := rfl
    omega
  · have : (goodD d).k = 1 + d.k % 3 := rfl
    omega
theorem good_chk {d : Dl} {r : Nat} {o : List Cp} (h1 : d.k % 3 = 0 → Made r o) (h2 : d.k % 3 ≠ 0 → o = []) : chkD (goodD d) o = 0 := by
  have hu : (userS (goodD d).aD (goodD d).aU && upS 1073741824 (goodD d).id && upS 1048576 (goodD d).ver) = true := by
    show (userS (d.aD % 3) (d.aU % 8) && upS 1073741824 (d.id % 1073741825) && upS 1048576 (d.ver % 1048577)) = true
    simp only [userS, upS, Bool.and_eq_true, decide_eq_true_eq]
    omega
  rw [chkD, if_pos hu]
  by_cases h : d.k % 3 = 0
  · have hk : (goodD d).k = 1 := by show 1 + d.k % 3 = 1; omega
    have hD : (goodD d).wD = 0 := by show (if d.k % 3 = 0 then (0 : Int) else _) = 0; rw [if_pos h]
    have hU : (goodD d).wU = 0 := by show (if d.k % 3 = 0 then (0 : Int) else _) = 0; rw [if_pos h]
    rw [if_pos hk, hD, hU, editS, (h1 h).plain.chk, if_neg (fun h => h rfl), if_pos ⟨rfl, rfl⟩]
  · have hk : ¬ (goodD d).k = 1 := by show ¬ 1 + d.k % 3 = 1; omega
    have hk2 : (goodD d).k = 2 ∨ (goodD d).k = 3 := by show 1 + d.k % 3 = 2 ∨ 1 + d.k % 3 = 3; omega
    have hD : (goodD d).wD = d.wD % 3 := by show (if d.k % 3 = 0 then (0 : Int) else _) = _; rw [if_neg h]
    have hU : (goodD d).wU = d.wU % 8 := by show (if d.k % 3 = 0 then (0 : Int) else _) = _; rw [if_neg h]
    rw [if_neg hk, if_pos hk2, hD, hU, h2 h, peopleS, if_pos ⟨rfl, by simp only [userS, upS, Bool.and_eq_true, decide_eq_true_eq]; omega⟩]
theorem good_read {d : Dl} {r : Nat} {o : List Cp} (hd : d.h.length = 32) (h1 : d.k % 3 = 0 → Made r o) (h2 : d.k % 3 ≠ 0 → o = []) : delP (dB (goodD d) o) = (goodD d, o, 0) :=
  delP_dB _ o (good_fits hd) (by have := opB_size (good_plain h1 h2).few; omega) (good_plain h1 h2).read (good_chk h1 h2)
end Go.Proofs.YtinifnpajkldbaaDoor

/- A signed delta that comes in. -/
namespace Go.Proofs.YtinifnpajkldbaaDoor
open Go.ChangeShapes Go.WideShapes Go.ChangeAt Go.RowKit
set_option linter.unusedSimpArgs false
set_option linter.unusedVariables false

set_option maxRecDepth 100000 in
theorem open_signed {H : Type} {enc : TypeId × Value → H} {W : World} {base b0 : Nat} {held : Bool} {r : Reach} {v : Value} {d : DataW H} {p : List MemPlace}
    (hv : Value.okWide Tryd.prog W r b0 40 v) (h : DataW.Trod enc Tryd.prog W base (fun _ => true) held 40 v d p) : ∃ (a : Option Addr) (n c : Nat) (zs : List Int) (m : List UInt8), v = .agg (sgC (.slice a n c) m).toArray ∧ m.length = 32 ∧ IsRow .u8 W a n c zs := by
  have hu : Tryd.prog.underlying 40 = some (.struct (Tryd.prog.fieldsOf 40)) := by kernel_rfl
  simp only [Value.okWide, hu] at hv
  obtain ⟨cs, rfl, _, _⟩ := hv
  obtain ⟨fuel, hf⟩ := h
  obtain ⟨xs, m, rfl, _, hl, hn, hel⟩ := DataW.trod_struct hu hf
  have hx : xs.length = 2 := by rw [hn]; kernel_rfl
  have hl2 : cs.toList.length = 33 := by
    have : (Value.agg cs).cells.toList.length = 33 := by rw [hl]; kernel_rfl
    exact this
  have c1 : Tryd.prog.cellsOf 22 = 1 := by kernel_rfl
  have c3 : Tryd.prog.cellsOf 26 = 32 := by kernel_rfl
  have f0 := field_at hel 0 22 0 (by kernel_rfl)
  have f1 := field_at hel 1 26 1 (by kernel_rfl)
  have e0 : (Value.agg cs).cells.toList = cs.toList := rfl
  simp only [c1, c3, e0] at f0 f1
  obtain ⟨l, hcl⟩ : ∃ l, cs.toList = l := ⟨_, rfl⟩
  rw [hcl] at hl2 f0 f1
  rw [List.getElem?_eq_getElem (by omega)] at f0 f1
  obtain ⟨hs, hh, g3⟩ := open_hashc f1
  have s0 := take_split l 0 1
  have s1 := take_split l 1 32
  have s7 : l.drop 33 = [] := List.drop_of_length_le (by omega)
  rw [g3, s7, List.append_nil] at s1
  rcases open_ints Tryd.underlying22 Tryd.underlying5 (by kernel_rfl) f0 with ⟨hcs, _⟩ | ⟨x, n, c, zs, hcs, _, h1, h2, h3, _, hcell, hwz⟩
  · rw [hcs, ← s1] at s0
    refine ⟨none, 0, 0, [], hs, ?_, hh, .inl ⟨rfl, rfl, rfl, rfl⟩⟩
    have e : cs.toList = sgC (.slice none 0 0) hs := by rw [hcl, ← List.drop_zero (l := l), ← s0]; rfl
    rw [← e]
  · rw [hcs, ← s1] at s0
    refine ⟨some x, n, c, zs, hs, ?_, hh, .inr ⟨_, rfl, h1, h2, by simpa using h3, hcell, hwz⟩⟩
    have e : cs.toList = sgC (.slice (some x) n c) hs := by rw [hcl, ← List.drop_zero (l := l), ← s0]; rfl
    rw [← e]
end Go.Proofs.YtinifnpajkldbaaDoor

/- The contracts of package delta's addrBytes, partBytes and OpBytes. -/
namespace Go.Proofs.YtinifnpajkldbaaDoor
open Go.RowKit
set_option linter.unusedSimpArgs false
set_option linter.unusedVariables false

set_option maxRecDepth 100000 in
set_option maxHeartbeats 1000000 in
theorem addrB_any (v : Value) (l : List UInt8) (k : Nat) (hk : l.length = k) (D U : Int) (w : World) (hr : Reads w v (B l)) (hb : k + 16 ≤ 140737488355328) :
    Calls Tryd.prog 59 #[v, .agg #[.int .i64 D, .int .i64 U]] w fun e w' => ∃ g cap, e = .returned (.slice (some ⟨g, 0, none⟩) (k + 16) cap) ∧ w.heap.size ≤ g ∧ Owns w' 5 g cap (k + 16) (B (l ++ i8 D ++ i8 U)) ∧ Below w.heap.size w w' := by
  obtain ⟨ao, cp, rfl, _⟩ : ∃ ao cp, v = .slice ao k cp ∧ True := by obtain ⟨a, c, e, _⟩ := hr; rw [B_length, hk] at e; exact ⟨a, c, e, trivial⟩
  have HR := hid hr
  have HK := hid hk
  clear hr hk
  obtain ⟨L, hL⟩ : ∃ L, w.heap.size = L := ⟨_, rfl⟩
  have Hb0 := hid (show Below L w (w.alloc (.cells #[.int .i64 D, .int .i64 U] 24)) by rw [← hL]; exact (Below.refl _ _).alloc (Nat.le_refl _) _)
  have HB0 := hid (show Blk (w.alloc (.cells #[.int .i64 D, .int .i64 U] 24)) 24 L [.int .i64 D, .int .i64 U] by rw [← hL]; exact Blk.new w _ _)
  have HS0 := hid (show L + 1 = (w.alloc (.cells #[.int .i64 D, .int .i64 U] 24)).heap.size by simp; omega)
  have HR0 := hid (HR.out.later ((Below.refl _ _).alloc (Nat.le_refl _) (.cells #[.int .i64 D, .int .i64 U] 24)))
  go_enter Tryd.func59, Tryd.ntmps59
  go_wp2_with fail
  generalize w.alloc (.cells #[.int .i64 D, .int .i64 U] 24) = w1 at *
  try rw [hL]
  refine wp_region_held_drew (S := fun w' => Blk w' 24 L [.int .i64 D, .int .i64 U]) (by kernel_rfl) (HB0.out.drewN 1) (fun hHeld => ?_)
  refine wpAnyH_take (i := 0) (v := .slice ao k cp) rfl (by kernel_rfl) (by kernel_rfl) (by kernel_rfl) (fun _ _ _ h => h) (Or.inl ⟨by rfl, by intro w hSw; go_simp⟩) hHeld ?_
  try simp only [Act.put, List.setIfInBounds_toArray, List.set_cons_zero, List.set_cons_succ, List.getElem_toArray, List.getElem_cons_zero, List.getElem_cons_succ]
  refine wpAnyH_take (i := 1) (v := .pointer (some ⟨L, 0, none⟩)) rfl (by kernel_rfl) (by kernel_rfl) (by kernel_rfl) (fun _ _ _ h => h) (Or.inl ⟨by rfl, by intro w hSw; go_simp⟩) hHeld ?_
  try simp only [Act.put, List.setIfInBounds_toArray, List.set_cons_zero, List.set_cons_succ, List.getElem_toArray, List.getElem_cons_zero, List.getElem_cons_succ]
  refine wpAnyH_take (i := 2) (v := .int .i64 D) rfl (by kernel_rfl) (by kernel_rfl) (by kernel_rfl) (fun _ _ _ h => h) (Or.inl ⟨by rfl, by intro w hSw; have q := hSw.cell (j := 0) rfl; go_simp⟩) hHeld ?_
  try simp only [Act.put, List.setIfInBounds_toArray, List.set_cons_zero, List.set_cons_succ, List.getElem_toArray, List.getElem_cons_zero, List.getElem_cons_succ]
  refine wpAnyH_take (i := 4) (v := .pointer (some ⟨L, 1, none⟩)) rfl (by kernel_rfl) (by kernel_rfl) (by kernel_rfl) (fun _ _ _ h => h) (Or.inl ⟨by rfl, by intro w hSw; go_simp⟩) hHeld ?_
  try simp only [Act.put, List.setIfInBounds_toArray, List.set_cons_zero, List.set_cons_succ, List.getElem_toArray, List.getElem_cons_zero, List.getElem_cons_succ]
  refine wpAnyH_take (i := 5) (v := .int .i64 U) rfl (by kernel_rfl) (by kernel_rfl) (by kernel_rfl) (fun _ _ _ h => h) (Or.inl ⟨by rfl, by intro w hSw; have q := hSw.cell (j := 1) rfl; go_simp⟩) hHeld ?_
  try simp only [Act.put, List.setIfInBounds_toArray, List.set_cons_zero, List.set_cons_succ, List.getElem_toArray, List.getElem_cons_zero, List.getElem_cons_succ]
  refine wpAnyH_ready (rs := [3]) (by kernel_rfl) (by simp) ?_
  refine AllReadyH.cons rfl (fun K hK => ?_) AllReadyH.nil
  go_simp
  refine (cInt (.slice ao k cp) l k HK.out D _ (show Reads w1.drew _ _ from HR0.out) (by omega)).mono ?_
  rintro _ w2 ⟨g2, cap2, rfl, hg2, ho2, hb2⟩
  have hhb : Below w1.heap.size w1.drew w2 := hb2
  refine hK.out _ _ (hHeld.later hb2) (fun hHeld => ?_)
  clear hK K
  try simp only [Act.put, List.setIfInBounds_toArray, List.set_cons_zero, List.set_cons_succ, List.getElem_toArray, List.getElem_cons_zero, List.getElem_cons_succ]
  have HO2 := hid ho2
  have Hb2 := hid (show Below L w w2 from Hb0.out.trans ((below_of_drew hb2).mono (by have h1 : L + 1 = w1.drew.heap.size := HS0.out; omega)))
  have HG2 := hid (show L ≤ g2 by have h1 : w1.heap.size ≤ g2 := hg2; have := HS0.out; omega)
  clear ho2 hb2 hg2 hhb
  refine wpAnyH_ready (rs := [6]) (by kernel_rfl) (by simp) ?_
  refine AllReadyH.cons rfl (fun K hK => ?_) AllReadyH.nil
  go_simp
  refine (cInt (.slice (some ⟨g2, 0, none⟩) (k + 8) cap2) (l ++ i8 D) (k + 8) (by rw [List.length_append, HK.out, i8_len]) U _ HO2.out.reads (by omega)).mono ?_
  rintro _ w3 ⟨g3, cap3, rfl, hg3, ho3, hb3⟩
  refine hK.out _ _ (hHeld.later hb3) (fun hHeld => ?_)
  clear hK K
  try simp only [Act.put, List.setIfInBounds_toArray, List.set_cons_zero, List.set_cons_succ, List.getElem_toArray, List.getElem_cons_zero, List.getElem_cons_succ]
  have HO3 := hid ho3
  have Hb3 := hid (show Below L w w3 from Hb2.out.trans (hb3.mono (by have := Hb2.out.size; omega)))
  have HG3 := hid (show L ≤ g3 by have := Hb2.out.size; omega)
  clear ho3 hb3 hg3
  refine wpAnyH_take (i := 7) (v := .slice (some ⟨g3, 0, none⟩) (k + 8 + 8) cap3) rfl (by kernel_rfl) (by kernel_rfl) (by kernel_rfl) (fun _ _ _ h => h) (Or.inl ⟨by rfl, by intro w hSw; go_simp⟩) hHeld ?_
  try simp only [Act.put, List.setIfInBounds_toArray, List.set_cons_zero, List.set_cons_succ, List.getElem_toArray, List.getElem_cons_zero, List.getElem_cons_succ]
  refine wpAnyH_done (by kernel_rfl) ?_ _
  go_wp2_with fail
  go_ret
  subst hL
  exact ⟨g3, cap3, rfl, HG3.out, HO3.out, Hb3.out⟩

set_option maxRecDepth 100000 in
set_option maxHeartbeats 1000000 in
theorem partB_any (c : Cp) (hc : c.s.size ≤ 65535) (w : World) :
    Calls Tryd.prog 77 #[.agg c.vals.toArray] w fun e w' => ∃ g cap, e = .returned (.slice (some ⟨g, 0, none⟩) (11 + c.s.size) cap) ∧ w.heap.size ≤ g ∧ Owns w' 5 g cap (11 + c.s.size) (B (partB c)) ∧ Below w.heap.size w w' := by
  obtain ⟨k, n, s⟩ := c
  simp only [Cp.vals] at *
  obtain ⟨L, hL⟩ : ∃ L, w.heap.size = L := ⟨_, rfl⟩
  have Hb0 := hid (show Below L w (w.alloc (.cells #[.int .i64 k, .int .i64 n, .string s] 62)) by rw [← hL]; exact (Below.refl _ _).alloc (Nat.le_refl _) _)
  have HB0 := hid (show Blk (w.alloc (.cells #[.int .i64 k, .int .i64 n, .string s] 62)) 62 L [.int .i64 k, .int .i64 n, .string s] by rw [← hL]; exact Blk.new w _ _)
  have HS0 := hid (show L + 1 = (w.alloc (.cells #[.int .i64 k, .int .i64 n, .string s] 62)).heap.size by simp; omega)
  have HC := hid hc
  go_enter Tryd.func77, Tryd.ntmps77
  go_wp2_with fail
  generalize w.alloc (.cells #[.int .i64 k, .int .i64 n, .string s] 62) = w1 at *
  try rw [hL]
  refine wp_region_held_drew (S := fun w' => Blk w' 62 L [.int .i64 k, .int .i64 n, .string s]) (by kernel_rfl) (HB0.out.drewN 1) (fun hHeld => ?_)
  refine wpAnyH_take (i := 0) (v := .pointer (some ⟨L, 0, none⟩)) rfl (by kernel_rfl) (by kernel_rfl) (by kernel_rfl) (fun _ _ _ h => h) (Or.inl ⟨by rfl, by intro w hSw; go_simp⟩) hHeld ?_
  try simp only [Act.put, List.setIfInBounds_toArray, List.set_cons_zero, List.set_cons_succ, List.getElem_toArray, List.getElem_cons_zero, List.getElem_cons_succ]
  refine wpAnyH_take (i := 1) (v := .int .i64 k) rfl (by kernel_rfl) (by kernel_rfl) (by kernel_rfl) (fun _ _ _ h => h) (Or.inl ⟨by rfl, by intro w hSw; have q := hSw.cell (j := 0) rfl; go_simp⟩) hHeld ?_
  try simp only [Act.put, List.setIfInBounds_toArray, List.set_cons_zero, List.set_cons_succ, List.getElem_toArray, List.getElem_cons_zero, List.getElem_cons_succ]
  refine wpAnyH_take (i := 3) (v := .pointer (some ⟨L, 1, none⟩)) rfl (by kernel_rfl) (by kernel_rfl) (by kernel_rfl) (fun _ _ _ h => h) (Or.inl ⟨by rfl, by intro w hSw; go_simp⟩) hHeld ?_
  try simp only [Act.put, List.setIfInBounds_toArray, List.set_cons_zero, List.set_cons_succ, List.getElem_toArray, List.getElem_cons_zero, List.getElem_cons_succ]
  refine wpAnyH_take (i := 4) (v := .int .i64 n) rfl (by kernel_rfl) (by kernel_rfl) (by kernel_rfl) (fun _ _ _ h => h) (Or.inl ⟨by rfl, by intro w hSw; have q := hSw.cell (j := 1) rfl; go_simp⟩) hHeld ?_
  try simp only [Act.put, List.setIfInBounds_toArray, List.set_cons_zero, List.set_cons_succ, List.getElem_toArray, List.getElem_cons_zero, List.getElem_cons_succ]
  refine wpAnyH_take (i := 6) (v := .pointer (some ⟨L, 2, none⟩)) rfl (by kernel_rfl) (by kernel_rfl) (by kernel_rfl) (fun _ _ _ h => h) (Or.inl ⟨by rfl, by intro w hSw; go_simp⟩) hHeld ?_
  try simp only [Act.put, List.setIfInBounds_toArray, List.set_cons_zero, List.set_cons_succ, List.getElem_toArray, List.getElem_cons_zero, List.getElem_cons_succ]
  refine wpAnyH_take (i := 7) (v := .string s) rfl (by kernel_rfl) (by kernel_rfl) (by kernel_rfl) (fun _ _ _ h => h) (Or.inl ⟨by rfl, by intro w hSw; have q := hSw.cell (j := 2) rfl; go_simp⟩) hHeld ?_
  try simp only [Act.put, List.setIfInBounds_toArray, List.set_cons_zero, List.set_cons_succ, List.getElem_toArray, List.getElem_cons_zero, List.getElem_cons_succ]
  refine wpAnyH_ready (rs := [2]) (by kernel_rfl) (by simp) ?_
  refine AllReadyH.cons rfl (fun K hK => ?_) AllReadyH.nil
  go_simp
  refine (cByte (.slice none 0 0) [] 0 rfl k _ (Reads.nil _) (by omega)).mono ?_
  rintro _ w2 ⟨g2, cap2, rfl, hg2, ho2, hb2⟩
  refine hK.out _ _ (hHeld.later hb2) (fun hHeld => ?_)
  clear hK K
  try simp only [Act.put, List.setIfInBounds_toArray, List.set_cons_zero, List.set_cons_succ, List.getElem_toArray, List.getElem_cons_zero, List.getElem_cons_succ]
  have HO2 := hid ho2
  have Hb2 := hid (show Below L w w2 from Hb0.out.trans ((below_of_drew hb2).mono (by have h1 : L + 1 = w1.drew.heap.size := HS0.out; omega)))
  have HG2 := hid (show L ≤ g2 by have h1 : w1.heap.size ≤ g2 := hg2; have := HS0.out; omega)
  clear ho2 hb2 hg2
  refine wpAnyH_ready (rs := [5]) (by kernel_rfl) (by simp) ?_
  refine AllReadyH.cons rfl (fun K hK => ?_) AllReadyH.nil
  go_simp
  refine (cInt (.slice (some ⟨g2, 0, none⟩) (0 + 1) cap2) ([] ++ i1 k) (0 + 1) rfl n _ HO2.out.reads (by omega)).mono ?_
  rintro _ w3 ⟨g3, cap3, rfl, hg3, ho3, hb3⟩
  refine hK.out _ _ (hHeld.later hb3) (fun hHeld => ?_)
  clear hK K
  try simp only [Act.put, List.setIfInBounds_toArray, List.set_cons_zero, List.set_cons_succ, List.getElem_toArray, List.getElem_cons_zero, List.getElem_cons_succ]
  have HO3 := hid ho3
  have Hb3 := hid (show Below L w w3 from Hb2.out.trans (hb3.mono (by have := Hb2.out.size; omega)))
  have HG3 := hid (show L ≤ g3 by have := Hb2.out.size; omega)
  clear ho3 hb3 hg3
  refine wpAnyH_ready (rs := [8]) (by kernel_rfl) (by simp) ?_
  refine AllReadyH.cons rfl (fun K hK => ?_) AllReadyH.nil
  go_simp
  refine (cText (.slice (some ⟨g3, 0, none⟩) (0 + 1 + 8) cap3) ([] ++ i1 k ++ i8 n) (0 + 1 + 8) rfl s _ HO3.out.reads HC.out (by have := HC.out; omega)).mono ?_
  rintro _ w4 ⟨g4, cap4, rfl, hg4, ho4, hb4⟩
  refine hK.out _ _ (hHeld.later hb4) (fun hHeld => ?_)
  clear hK K
  try simp only [Act.put, List.setIfInBounds_toArray, List.set_cons_zero, List.set_cons_succ, List.getElem_toArray, List.getElem_cons_zero, List.getElem_cons_succ]
  have HO4 := hid ho4
  have Hb4 := hid (show Below L w w4 from Hb3.out.trans (hb4.mono (by have := Hb3.out.size; omega)))
  have HG4 := hid (show L ≤ g4 by have := Hb3.out.size; omega)
  clear ho4 hb4 hg4
  refine wpAnyH_take (i := 9) (v := .slice (some ⟨g4, 0, none⟩) (0 + 1 + 8 + 2 + s.size) cap4) rfl (by kernel_rfl) (by kernel_rfl) (by kernel_rfl) (fun _ _ _ h => h) (Or.inl ⟨by rfl, by intro w hSw; go_simp⟩) hHeld ?_
  try simp only [Act.put, List.setIfInBounds_toArray, List.set_cons_zero, List.set_cons_succ, List.getElem_toArray, List.getElem_cons_zero, List.getElem_cons_succ]
  refine wpAnyH_done (by kernel_rfl) ?_ _
  go_wp2_with fail
  go_ret
  subst hL
  refine ⟨g4, cap4, by simp only [Nat.zero_add, Nat.reduceAdd]; rfl, HG4.out, ?_, Hb4.out⟩
  have h := HO4.out
  simp only [Nat.zero_add, Nat.reduceAdd, List.nil_append] at h
  exact h
end Go.Proofs.YtinifnpajkldbaaDoor
