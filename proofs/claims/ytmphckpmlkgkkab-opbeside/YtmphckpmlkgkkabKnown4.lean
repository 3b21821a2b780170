/- The contract of the laws' own function known, and what Make makes, applied. -/
import Derived.Test.YtmphckpmlkgkkabNormal
import Derived.Test.YtmphckpmlkgkkabMake
namespace Go.Proofs.Ytmphckpmlkgkkab
open Go.RowKit
set_option linter.unusedSimpArgs false
set_option linter.unusedVariables false

/-- A slice of parts that is built at once. -/
theorem parts_new (w : World) (o : List Cp) (n : Nat) (hn : o.length = n) : HasC (w.alloc (.cells (C o).toArray 29)) w.heap.size (.slice (some ⟨w.heap.size, 0, none⟩) n n) o := by
  subst hn
  exact HasK.built (heap_alloc_new w _) (C_length o) (Nat.le_refl _)

def kx : List Cp := [pX 1, pP ⟨#[120]⟩, pP ⟨#[121]⟩]
theorem kx_norm : normS kx = [pP ⟨#[120, 121]⟩, pX 1] := rfl
theorem kx_vals : Vals kx := (val_X (n := 1) (by decide) (by decide)).append ((val_P (s := ⟨#[120]⟩) (by decide) (by decide)).append (val_P (s := ⟨#[121]⟩) (by decide) (by decide)))

set_option maxRecDepth 100000 in
set_option maxHeartbeats 1000000 in
theorem known_any (w : World) : Calls Try.prog 5 #[] w fun e w' => e = .returned (.bool true) ∧ Below w.heap.size w w' := by
  go_enter Try.func5, Try.ntmps5
  go_wp2_with fail
  refine (Normal_any _ kx _ (parts_new w kx 3 rfl).reads (kx_vals.fit (by decide)) kx_vals.good (by decide)).mono ?_
  rintro _ w1 ⟨v, rfl, hH, hb⟩
  rw [kx_norm] at hH
  have Hb := hid (show Below w.heap.size w w1 from ((Below.refl _ _).alloc (Nat.le_refl _) _).trans (hb.mono (by simp)))
  obtain ⟨g, off, cap, e, hc, hr, hg⟩ := hH.reads.place (by decide)
  subst e
  obtain ⟨c0, c1, c2⟩ := RC.cells hr (j := 0) (c := pP ⟨#[120, 121]⟩) rfl
  obtain ⟨d0, d1, d2⟩ := RC.cells hr (j := 1) (c := pX 1) rfl
  simp only [List.length_cons, List.length_nil, Nat.zero_mul, Nat.add_zero, Nat.one_mul, Nat.zero_add, Nat.reduceAdd, pP, pX] at *
  clear hH hb hr
  go_wp2_with fail
  go_ret
  exact ⟨rfl, Hb.out⟩

/-- Apply of what Make made over the whole of d. -/
theorem apS_made {d : ByteArray} {o : List Cp} (h : Made d.size o) : ∃ x : ByteArray, apS d o = (x, 0) ∧ (x.size : Int) = outS o := by
  refine ⟨⟨(applyS d.data.toList o).toArray⟩, ?_, ?_⟩
  · rw [apS, if_neg (by simpa using h.ins), if_neg (by have := h.outs; omega)]
  · rw [← applyS_length o d.data.toList h.good (by rw [h.ins, ← size_list]; omega)]
    rw [size_list]
theorem cap_of_row {w : World} {k : IntKind} {a : Option Addr} {len cap : Nat} {zs : List Int} (h : IsRow k w a len cap zs) : len ≤ cap := by
  rcases h with ⟨rfl, rfl, rfl, rfl⟩ | ⟨ad, rfl, h1, h2, h3, h4, h5⟩ <;> omega
end Go.Proofs.Ytmphckpmlkgkkab
