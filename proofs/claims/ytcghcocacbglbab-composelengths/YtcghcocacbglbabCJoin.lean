/- The contract of package compose's joined. -/
import Derived.Test.YtcghcocacbglbabCSt
import Derived.Deep.RegionWith
namespace Go.Proofs.Ytcghcocacbglbab
open Go.RowKit
set_option linter.unusedSimpArgs false
set_option linter.unusedVariables false

/-- A piece of a part: n bytes from p on. -/
def Cp.cutAt (c : Cp) (p n : Nat) : Cp := if c.k = 2 then pP (c.s.extract p (p + n)) else ⟨c.k, n, Em⟩
/-- What becomes of a stretch of c where d goes over it. -/
def jl (c d : Cp) (p n : Nat) : List Cp := if c.k = 1 then [⟨d.k, n, Em⟩] else if d.k = 1 then [pP (c.s.extract p (p + n))] else []

theorem one_new3 (w : World) (x y : Obj) (c : Cp) : HasC (((w.alloc x).alloc y).alloc (.cells c.vals.toArray 32)) w.heap.size (.slice (some ⟨w.heap.size + 2, 0, none⟩) 1 1) [c] := by
  have := one_new ((w.alloc x).alloc y) c w.heap.size (by simp; omega)
  rwa [show ((w.alloc x).alloc y).heap.size = w.heap.size + 2 by simp] at this
theorem below2 (w : World) (x y : Obj) : Below w.heap.size w ((w.alloc x).alloc y) := ((Below.refl _ _).alloc (Nat.le_refl _) _).alloc (by simp) _
theorem below3 (w : World) (x y z : Obj) : Below w.heap.size w (((w.alloc x).alloc y).alloc z) := (below2 w x y).alloc (by simp; omega) _

set_option maxHeartbeats 1000000 in
theorem joined_any (c d : Cp) (p n : Nat) (hc : c.k = 1 ∨ c.k = 2) (hd : d.k = 1 ∨ d.k = 3) (hs : c.k = 2 → p + n ≤ c.s.size) (hz : c.s.size < 2 ^ 53) (hn : n < 2 ^ 53) (w : World) :
    Calls Try.prog 20 #[.agg c.vals.toArray, .agg d.vals.toArray, st p n] w fun e w' => ∃ v, e = .returned v ∧ HasC w' w.heap.size v (jl c d p n) ∧ Below w.heap.size w w' := by
  obtain ⟨ck, cn, cs⟩ := c
  obtain ⟨dk, dn, ds⟩ := d
  simp only [Cp.vals, jl] at *
  rcases hc with rfl | rfl
  · rw [if_pos rfl]
    have e3 : ((1 : Int) == 1) = true := rfl
    go_enter Try.func20, Try.ntmps20
    go_wp2_with fail
    go_region_with
      (go_at_call 28; go_must (refine (size_any p n hn _).mono ?_; rintro _ w1 ⟨rfl, rfl⟩))
    all_goals
      go_wp2_with fail
      go_ret
      exact ⟨_, rfl, (one_new3 w _ _ ⟨dk, n, Em⟩).later (Below.refl _ _).drew, (below3 w _ _ _).drew⟩
  · rw [if_neg (by decide)]
    rcases hd with rfl | rfl
    · rw [if_pos rfl]
      go_enter Try.func20, Try.ntmps20
      go_wp2_with (go_at_call 29; go_must (refine (of_any p n cs (hs rfl) hz _).mono ?_; rintro _ w1 ⟨rfl, rfl⟩))
      go_ret
      exact ⟨_, rfl, one_new3 w _ _ (pP (cs.extract p (p + n))), below3 w _ _ _⟩
    · rw [if_neg (by decide)]
      go_enter Try.func20, Try.ntmps20
      go_wp2_with fail
      go_ret
      exact ⟨_, rfl, HasC.nil _ _, below2 w _ _⟩
end Go.Proofs.Ytcghcocacbglbab
