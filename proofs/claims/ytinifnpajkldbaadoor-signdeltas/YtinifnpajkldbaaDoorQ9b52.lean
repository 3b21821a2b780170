/- Texts laid together: GoodAt8, GRead8. -/
import Derived.Test.YtinifnpajkldbaaDoorGood8b
import Derived.Test.YtinifnpajkldbaaDoorMade8
import Derived.Test.YtinifnpajkldbaaDoorReadB8

/- The laws' own Good, laid into a variable of its own. -/
namespace Go.Proofs.YtinifnpajkldbaaDoor
open Go.RowKit
set_option linter.unusedSimpArgs false
set_option linter.unusedVariables false

def GoodR (d : Dl) (n : Nat) (w : World) (e : Ending) (w' : World) : Prop :=
  ∃ v' o' ds, (goodD d).cells v' = ds ∧ e = .returned (.agg ds.toArray) ∧ HasC w' w.heap.size v' o' ∧ Below w.heap.size w w' ∧ (d.k % 3 = 0 → Made n o') ∧ (d.k % 3 ≠ 0 → o' = [])
theorem good8_at (d : Dl) (hd : d.h.length = 32) (v : Value) (cs : List Value) (hcs : d.cells v = cs) (o : List Cp) (w : World) (hv : RC w v o) (n : Nat) (hn : n ≤ 120) (ao : Option Addr) (len cap : Nat) (hns : NS w ao len) (hcap : len ≤ cap) (hlen : len ≤ 9223372036854775807) :
    Calls Tryd.prog 11 #[.agg cs.toArray, .int .i64 n, .slice ao len cap] w (GoodR d n w) := by
  rw [← hcs]
  refine (good8_any d hd v o w hv n hn ao len cap hns hcap hlen).mono ?_
  rintro e w' ⟨v', o', h1, h2, h3, h4, h5⟩
  exact ⟨v', o', _, rfl, h1, h2, h3, h4, h5⟩
/-- The variable s holds a valid delta; d's own still stands in block L. -/
def GoodAt (d : Dl) (v : Value) (L r : Nat) (w : World) (s : Value) (w' : World) : Prop :=
  ∃ g v' o', s = .pointer (some ⟨g, 0, none⟩) ∧ DW w' 30 g (goodD d) v' ∧ HasC w' L v' o' ∧ DW w' 30 L d v ∧ Below L w w' ∧ (d.k % 3 = 0 → Made r o') ∧ (d.k % 3 ≠ 0 → o' = [])
theorem goodAt_store {d : Dl} {v v' : Value} {o' : List Cp} {L r g Bd : Nat} {ds : List Value} {w w5 : World} (hd : d.h.length = 32) (hH : DW w5 30 L d v ∧ Below L w w5) (hB : Blk w5 30 g (Dl.zero.cells (.slice none 0 0))) (hC : HasC w5 Bd v' o')
    (hs : ∀ k, blkOf v' = some k → k ≠ g) (hLg : L < g) (hLB : L ≤ Bd) (hds : (goodD d).cells v' = ds) (h1 : d.k % 3 = 0 → Made r o') (h2 : d.k % 3 ≠ 0 → o' = []) :
    (DW (w5.setCells g 0 ds) 30 L d v ∧ Below L w (w5.setCells g 0 ds)) ∧ GoodAt d v L r w (.pointer (some ⟨g, 0, none⟩)) (w5.setCells g 0 ds) := by
  have a1 : DW (w5.setCells g 0 ds) 30 L d v := hH.1.kept (setCells_heap (by omega) _ _ _)
  have a2 : Below L w (w5.setCells g 0 ds) := below_setCells (by omega) _ _ hH.2
  refine ⟨⟨a1, a2⟩, g, v', o', rfl, ?_, ?_, a1, a2, h1, h2⟩
  · rw [← hds]
    exact (DW.mk Dl.zero_len hB).set_all (goodD d) hd v'
  · refine HasC.mono ?_ hLB
    rcases hC with h | ⟨q, cap, cur, rfl, b1, b2, b3, b4, b5, b6⟩
    · exact .inl h
    · exact .inr ⟨q, cap, cur, rfl, b1, b2, b3, by rw [setCells_heap (hs q rfl)]; exact b4, b5, b6⟩
theorem HasC.apart {w : World} {Bd : Nat} {v : Value} {o : List Cp} (h : HasC w Bd v o) {g : Nat} (hg : g < Bd ∨ w.heap.size ≤ g) : ∀ k, blkOf v = some k → k ≠ g := by
  intro k hk
  have h1 : k < w.heap.size := HasK.blk h hk
  rcases h with ⟨rfl, _⟩ | ⟨q, cap, cur, rfl, b1, b2, b3, b4, b5, b6⟩
  · cases hk
  · cases hk
    have b1' : Bd ≤ q := b1
    have h1' : q < w.heap.size := h1
    show q ≠ g
    omega

theorem one4 {w : World} {Bd : Nat} {v : Value} {o : List Cp} (h : HasC w Bd v o) : v.oneCell' = true := by
  obtain ⟨a, c, rfl⟩ := h.form
  rfl
/-- A load of many cells that a guard asks for. -/
theorem wpList_load_asked {P : Program} {ops : Array Oper} {rest : List Oper} {op : Oper} {a : Act} {w : World} {Q : Exit → Act → World → Prop} (hw : Region.wanted op (yielded ops a.tmps) = true) (ty : TypeId) (x : Operand) (ho : op.op = .load ty x)
    (b o : Nat) (hx : a.eval x = .pointer (some ⟨b, o, none⟩)) (cs : List Value) (d : TypeDesc) (hc : w.rangeAt b o cs)
    (hu : P.underlying ty = some d) (hd : d.isRow = true) (hi : (P.info? ty).map (·.size) = some cs.length)
    (h : wpList P ops Q rest (a.put op.dst (.agg cs.toArray)) w) : wpList P ops Q (op :: rest) a w :=
  wpList_step fun K hK => by rw [if_pos hw]; exact wp_load_mid ty x ho b o hx cs d hc hu hd hi (hK _ _ h)
/-- A valid delta may be written, and is read as it was. -/
theorem good_plain {d : Dl} {r : Nat} {o : List Cp} (h1 : d.k % 3 = 0 → Made r o) (h2 : d.k % 3 ≠ 0 → o = []) : Plain o := by
  by_cases h : d.k % 3 = 0
  · exact (h1 h).plain
  · rw [h2 h]; exact Plain.nil
end Go.Proofs.YtinifnpajkldbaaDoor

/- What the laws' own Good makes may be written, and is read as it was (chapter 8). -/
namespace Go.Proofs.YtinifnpajkldbaaDoor
open Go.RowKit
set_option linter.unusedSimpArgs false
set_option linter.unusedVariables false

theorem good_fits {d : Dl} (h : d.h.length = 32) : (goodD d).Fits := by
  refine ⟨?_, ?_, ?_, h⟩
  · intro x hx
    replace hx : x ∈ [d.aD % 3, d.aU % 8, d.id % 1073741825, d.ver % 1048577, if d.k % 3 = 0 then 0 else d.wD % 3, if d.k % 3 = 0 then 0 else d.wU % 8] := hx
    by_cases h0 : d.k % 3 = 0
    · simp only [if_pos h0, List.mem_cons, List.not_mem_nil, or_false] at hx
      omega
    · simp only [if_neg h0, List.mem_cons, List.not_mem_nil, or_false] at hx
      omega
  · have : (goodD d).k = 1 + d.k % 3 := rfl
    omega
  · have : (goodD d).k = 1 + d.k % 3 := rfl
    omega
theorem good_chk {d : Dl} {r : Nat} {o : List Cp} (h1 : d.k % 3 = 0 → Made r o) (h2 : d.k % 3 ≠ 0 → o = []) : chkD (goodD d) o = 0 := by
  have hu : (userS (goodD d).aD (goodD d).aU && upS 1073741824 (goodD d).id && upS 1048576 (goodD d).ver) = true := by
    show (userS (d.aD % 3) (d.aU % 8) && upS 1073741824 (d.id % 1073741825) && upS 1048576 (d.ver % 1048577)) = true
    simp only [userS, upS, Bool.and_eq_true, decide_eq_true_eq]
    omega
  rw [chkD, if_pos hu]
  by_cases h : d.k % 3 = 0
  · have hk : (goodD d).k = 1 := by show 1 + d.k % 3 = 1; omega
    have hD : (goodD d).wD = 0 := by show (if d.k % 3 = 0 then (0 : Int) else _) = 0; rw [if_pos h]
    have hU : (goodD d).wU = 0 := by show (if d.k % 3 = 0 then (0 : Int) else _) = 0; rw [if_pos h]
    rw [if_pos hk, hD, hU, editS, (h1 h).plain.chk, if_neg (fun h => h rfl), if_pos ⟨rfl, rfl⟩]
  · have hk : ¬ (goodD d).k = 1 := by show ¬ 1 + d.k % 3 = 1; omega
    have hk2 : (goodD d).k = 2 ∨ (goodD d).k = 3 := by show 1 + d.k % 3 = 2 ∨ 1 + d.k % 3 = 3; omega
    have hD : (goodD d).wD = d.wD % 3 := by show (if d.k % 3 = 0 then (0 : Int) else _) = _; rw [if_neg h]
    have hU : (goodD d).wU = d.wU % 8 := by show (if d.k % 3 = 0 then (0 : Int) else _) = _; rw [if_neg h]
    rw [if_neg hk, if_pos hk2, hD, hU, h2 h, peopleS, if_pos ⟨rfl, by simp only [userS, upS, Bool.and_eq_true, decide_eq_true_eq]; omega⟩]
theorem good_read {d : Dl} {r : Nat} {o : List Cp} (hd : d.h.length = 32) (h1 : d.k % 3 = 0 → Made r o) (h2 : d.k % 3 ≠ 0 → o = []) : delP (dB (goodD d) o) = (goodD d, o, 0) :=
  delP_dB _ o (good_fits hd) (by have := opB_size (good_plain h1 h2).few; omega) (good_plain h1 h2).read (good_chk h1 h2)
end Go.Proofs.YtinifnpajkldbaaDoor
