/- Slices that came in, of elements of any number of cells. -/
import Derived.Test.YtifdoneffnfogabBase
import Derived.Test.YtifdoneffnfogabArgB
import Derived.Test.YtifdoneffnfogabProg
import Derived.ChangeArms
import Derived.DataElems
import Derived.OpenShut
import Derived.WalkKit
import Derived.ProofKit
namespace Go.Proofs.Ytifdoneffnfogab
open Go.ChangeShapes Go.WideShapes Go.ChangeAt Go.RowKit
set_option linter.unusedSimpArgs false
set_option linter.unusedVariables false

section
variable {H : Type} {enc : TypeId × Value → H} {W : World} {base : Nat} {sp : Nat → Bool} {held : Bool} {n : Nat}
theorem open_rowsK {t e : TypeId} {K : Nat} {cs : List Value} {x : DataW H × List MemPlace} (ht : Try.prog.underlying t = some (.slice e)) (hK : Try.prog.cellsOf e = K) (h0 : 0 < K) (h : DataW.trod enc Try.prog W base sp held n t cs = some x) :
    ∃ ao len cap, cs = [.slice ao len cap] ∧ len ≤ cap ∧ cap ≤ maxLen ∧ ∀ i, i < len → ∃ b off ds y m, ao = some ⟨b, off, none⟩ ∧ ds.length = K ∧ DataW.trod enc Try.prog W base sp held m e ds = some y ∧ ∀ j, j < K → W.cell? ⟨b, off + (i * K + j), none⟩ = ds[j]? := by
  rcases DataW.trod_slice ht h with ⟨rfl, _⟩ | ⟨a, len, cap, elems, rest, m, rfl, rfl, _, hb, hlc, hcm, hel, hi, _, _⟩
  · exact ⟨none, 0, 0, rfl, Nat.le_refl _, Nat.zero_le _, fun i h => absurd h (Nat.not_lt_zero i)⟩
  · rw [hK] at hi
    refine ⟨some a, len, cap, rfl, hlc, hcm, fun i hlt => ?_⟩
    have h1 := hi i hlt
    rw [List.getElem?_eq_getElem (by omega)] at h1
    obtain ⟨ds, h2, h3⟩ := Option.bind_eq_some_iff.1 h1
    obtain ⟨_, h4, h5⟩ := World.cells?_some h2
    obtain ⟨b, off, spd⟩ := a
    have hsp : spd = none := by
      cases spd with
      | none => rfl
      | some z =>
        have h1 := hi 0 (by omega)
        rw [List.getElem?_eq_getElem (by omega)] at h1
        obtain ⟨ds0, h2, _⟩ := Option.bind_eq_some_iff.1 h1
        obtain ⟨_, h4, h5⟩ := World.cells?_some h2
        have h6 := h5 0 h0
        rw [List.getElem?_eq_getElem (by omega), Nat.zero_mul] at h6
        simp only [Addr.add, if_true, World.cell?] at h6
        split at h6 <;> simp at h6
    subst hsp
    refine ⟨b, off, ds, _, m, rfl, h4, h3, fun j hj => ?_⟩
    have h6 := h5 j hj
    rw [Addr.add_add, Addr.add_lit] at h6
    exact h6

theorem open_bytesc {cs : List Value} {x : DataW H × List MemPlace} (h : DataW.trod enc Try.prog W base sp held n 31 cs = some x) :
    ∃ ao len cap l, cs = [.slice ao len cap] ∧ l.length = len ∧ len ≤ cap ∧ cap ≤ maxLen ∧ Reads W (.slice ao len cap) (B l) := by
  rcases open_ints Try.underlying31 Try.underlying5 (by kernel_rfl) h with ⟨rfl, _⟩ | ⟨a, len, cap, zs, rfl, _, hl, hm, hz, _, hcell, hwz⟩
  · exact ⟨none, 0, 0, [], rfl, rfl, Nat.le_refl _, Nat.zero_le _, none, 0, rfl, Nat.le_refl _, fun _ => rfl, fun _ h => by cases h⟩
  · have hzl : len ≤ zs.length := by rw [hz]; split <;> omega
    have hll : ((zs.take len).map fun n => UInt8.ofNat n.toNat).length = len := by rw [List.length_map, List.length_take]; omega
    refine ⟨some a, len, cap, (zs.take len).map fun n => UInt8.ofNat n.toNat, rfl, hll, hl, hm, some a, cap, by rw [B_length, hll], by rw [B_length, hll]; exact hl, (fun h => by cases h), fun ad he j u hj => ?_⟩
    cases he
    rw [B_get, List.getElem?_map, List.getElem?_take] at hj
    split at hj
    · rename_i hlt
      have hjz : j < zs.length := by omega
      rw [List.getElem?_eq_getElem hjz] at hj
      simp only [Option.map_some, Option.some.injEq] at hj
      rw [hcell j hjz, ← hj]
      have hw := wf_u8 (hwz zs[j] (List.getElem_mem hjz))
      have e1 : zs.getD j 0 = zs[j] := by rw [List.getD_eq_getElem?_getD, List.getElem?_eq_getElem hjz]; rfl
      rw [e1, UInt8.toNat_ofNat']
      congr 2
      omega
    · simp at hj

/-- A slice of slices of bytes that came in. -/
structure InBytes (W : World) (ao : Option Addr) (len cap : Nat) : Prop where
  le : len ≤ cap
  cap : cap ≤ maxLen
  at_ : ∀ j, j < len → ∃ b off so sc l, ao = some ⟨b, off, none⟩ ∧ W.cell? ⟨b, off + j, none⟩ = some (.slice so (List.length l) sc) ∧ Reads W (.slice so (List.length l) sc) (B l) ∧ sc ≤ maxLen
theorem InBytes.later {W' : World} {ao : Option Addr} {len cap : Nat} (h : InBytes W ao len cap) (hb : Below W.heap.size W W') : InBytes W' ao len cap := ⟨h.le, h.cap, fun j hj => by
  obtain ⟨b, off, so, sc, l, h1, h2, h3, h4⟩ := h.at_ j hj
  exact ⟨b, off, so, sc, l, h1, cell_later hb h2, h3.later hb, h4⟩⟩
theorem open_bytess {b0 : Nat} {t : TypeId} {r : Reach} {v : Value} {d : DataW H} {p : List MemPlace} (ht : Try.prog.underlying t = some (.slice 31)) (hv : Value.okWide Try.prog W r b0 t v) (h : DataW.Trod enc Try.prog W base sp held t v d p) : ∃ ao len cap, v = .slice ao len cap ∧ InBytes W ao len cap := by
  obtain ⟨a, len, cap, rfl⟩ := okWide_slice ht hv
  obtain ⟨fuel, hf⟩ := h
  obtain ⟨ao, len', cap', e, h1, h2, h3⟩ := open_rowsK ht (show Try.prog.cellsOf 31 = 1 by kernel_rfl) (by omega) hf
  simp [Value.cells] at e
  obtain ⟨rfl, rfl, rfl⟩ := e
  refine ⟨a, len, cap, rfl, h1, h2, fun j hj => ?_⟩
  obtain ⟨b, off, ds, y, m, e1, h4, h5, h6⟩ := h3 j hj
  obtain ⟨so, sl, sc, l, rfl, h7, h8, h9, h10⟩ := open_bytesc h5
  subst h7
  have h11 := h6 0 (by omega)
  rw [Nat.mul_one, Nat.add_zero] at h11
  exact ⟨b, off, so, sc, l, e1, h11, h10, h9⟩

/-- A slice of truths that came in. -/
structure InBools (W : World) (ao : Option Addr) (len cap : Nat) : Prop where
  le : len ≤ cap
  cap : cap ≤ maxLen
  at_ : ∀ j, j < len → ∃ b off x, ao = some ⟨b, off, none⟩ ∧ W.cell? ⟨b, off + j, none⟩ = some (.bool x)
theorem InBools.later {W' : World} {ao : Option Addr} {len cap : Nat} (h : InBools W ao len cap) (hb : Below W.heap.size W W') : InBools W' ao len cap := ⟨h.le, h.cap, fun j hj => by
  obtain ⟨b, off, x, h1, h2⟩ := h.at_ j hj
  exact ⟨b, off, x, h1, cell_later hb h2⟩⟩
theorem open_bools {b0 : Nat} {t : TypeId} {r : Reach} {v : Value} {d : DataW H} {p : List MemPlace} (ht : Try.prog.underlying t = some (.slice 4)) (hv : Value.okWide Try.prog W r b0 t v) (h : DataW.Trod enc Try.prog W base sp held t v d p) : ∃ ao len cap, v = .slice ao len cap ∧ InBools W ao len cap := by
  obtain ⟨a, len, cap, rfl⟩ := okWide_slice ht hv
  obtain ⟨fuel, hf⟩ := h
  obtain ⟨ao, len', cap', e, h1, h2, h3⟩ := open_rowsK ht (show Try.prog.cellsOf 4 = 1 by kernel_rfl) (by omega) hf
  simp [Value.cells] at e
  obtain ⟨rfl, rfl, rfl⟩ := e
  refine ⟨a, len, cap, rfl, h1, h2, fun j hj => ?_⟩
  obtain ⟨b, off, ds, y, m, e1, h4, h5, h6⟩ := h3 j hj
  obtain ⟨q, rfl, _⟩ := DataW.trod_bool Try.underlying4 h5
  have h11 := h6 0 (by omega)
  rw [Nat.mul_one, Nat.add_zero] at h11
  exact ⟨b, off, q, e1, h11⟩
end
end Go.Proofs.Ytifdoneffnfogab
