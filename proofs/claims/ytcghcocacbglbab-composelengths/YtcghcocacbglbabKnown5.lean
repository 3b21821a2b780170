/- The contract of the laws' own function known. -/
import Derived.Test.YtcghcocacbglbabCTwo
import Derived.Test.YtcghcocacbglbabMade4
namespace Go.Proofs.Ytcghcocacbglbab
open Go.RowKit
set_option linter.unusedSimpArgs false
set_option linter.unusedVariables false

def kp : List Cp := [pP ⟨#[120]⟩]
def kc (n : Nat) : List Cp := [pX n]
theorem kp_vals : Vals kp := val_P (s := ⟨#[120]⟩) (by decide) (by decide)
theorem kc_vals (n : Nat) (h1 : 1 ≤ n) (h2 : n ≤ 120) : Vals (kc n) := val_X (by omega) (by omega)
theorem kp_kc : twoS kp (kc 1) = [] := by
  unfold twoS kp kc
  rw [comp_J (by decide) (by decide)]
  rw [show restL (min (pP ⟨#[120]⟩).sz (pX ((1 : Nat) : Int)).sz) (pP ⟨#[120]⟩) [] = [] from rfl, show restL (min (pP ⟨#[120]⟩).sz (pX ((1 : Nat) : Int)).sz) (pX ((1 : Nat) : Int)) [] = [] from rfl, comp_nil]
  rfl
/-- What Make makes is short and small: what Two asks. -/
theorem parts_new2 (w : World) (ob : Obj) (o : List Cp) (n : Nat) (hn : o.length = n) : HasC ((w.alloc ob).alloc (.cells (C o).toArray 32)) w.heap.size (.slice (some ⟨w.heap.size + 1, 0, none⟩) n n) o := by
  have := (parts_new (w.alloc ob) o n hn).mono (B2 := w.heap.size) (by simp)
  rwa [show (w.alloc ob).heap.size = w.heap.size + 1 by simp] at this

set_option maxRecDepth 100000 in
set_option maxHeartbeats 1000000 in
theorem known5_any (w : World) : Calls Try.prog 4 #[] w fun e w' => e = .returned (.bool true) ∧ Below w.heap.size w w' := by
  go_enter Try.func4, Try.ntmps4
  go_wp2_with fail
  refine (Two_any _ _ kp (kc 1) _ ((parts_new w kp 1 rfl).later ((Below.refl _ _).alloc (Nat.le_refl _) _)).reads (parts_new2 w _ (kc 1) 1 rfl).reads (kp_vals.fit (by decide)) ((kc_vals 1 (by omega) (by omega)).fit (by decide)) kp_vals.good (kc_vals 1 (by omega) (by omega)).good (by decide) (by decide) (by decide)).mono ?_
  rintro _ w1 ⟨_, h1, hb1⟩
  obtain ⟨v1, rfl, hH1⟩ := h1 (by decide)
  rw [kp_kc] at hH1
  obtain ⟨a1, c1, rfl⟩ := hH1.form
  have Hb1 := hid (show Below w.heap.size w w1 from (below2 w _ _).trans (hb1.mono (by simp; omega)))
  clear hH1 hb1 h1
  simp only [List.length_nil]
  go_wp2_with fail
  refine (Two_any _ _ kp (kc 2) _ ((parts_new w1 kp 1 rfl).later ((Below.refl _ _).alloc (Nat.le_refl _) _)).reads (parts_new2 w1 _ (kc 2) 1 rfl).reads (kp_vals.fit (by decide)) ((kc_vals 2 (by omega) (by omega)).fit (by decide)) kp_vals.good (kc_vals 2 (by omega) (by omega)).good (by decide) (by decide) (by decide)).mono ?_
  rintro _ w2 ⟨h2, _, hb2⟩
  obtain rfl := h2 (by decide)
  have Hb2 := hid (show Below w.heap.size w w2 from below_seq Hb1.out ((below2 w1 _ _).trans (hb2.mono (by simp; omega))))
  clear hb2 h2
  go_wp2_with fail
  go_ret
  exact ⟨rfl, Hb2.out⟩
end Go.Proofs.Ytcghcocacbglbab
