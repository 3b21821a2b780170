/- The contract of package transform's Pair, in short. -/
import Derived.Test.YtlgdllbhddnokabTPair
import Derived.Test.YtlgdllbhddnokabOb
namespace Go.Proofs.Ytlgdllbhddnokab
open Go.RowKit
set_option linter.unusedSimpArgs false
set_option linter.unusedVariables false

/-- X and Y are what a and b become, led over one another; each makes r bytes then. -/
structure PX (a b X Y : List Cp) (r : Nat) : Prop where
  pr : PR (normS a) (normS b) X Y
  pa : PA (normS a) (normS b) X Y
  outs : outS X = r
theorem px_of {a b X Y : List Cp} (ga : Good a) (gb : Good b) (hi : inS a = inS b) (h : PR (normS a) (normS b) X Y) : ∃ r : Nat, PX a b X Y r ∧ (r : Int) ≤ outS a + outS b := by
  have hp := pr_pa h (norm_good ga) (norm_good gb) (by rw [in_norm _ ga, in_norm _ gb, hi])
  obtain ⟨r, hr⟩ : ∃ r : Nat, outS X = r := Int.eq_ofNat_of_zero_le hp.gx.outS_nn
  have h1 := hp.outs (norm_good gb)
  rw [out_norm _ ga, out_norm _ gb] at h1
  exact ⟨r, ⟨h, hp, hr⟩, by omega⟩
theorem px_ex {a b : List Cp} (ga : Good a) (gb : Good b) (hi : inS a = inS b) : ∃ X Y, ∃ r : Nat, PX a b X Y r ∧ (r : Int) ≤ outS a + outS b := by
  obtain ⟨X, Y, h⟩ := pr_ex _ (normS a) (normS b) (Nat.le_refl _) (norm_good ga) (norm_good gb) (by rw [in_norm _ ga, in_norm _ gb, hi])
  obtain ⟨r, h1, h2⟩ := px_of ga gb hi h
  exact ⟨X, Y, r, h1, h2⟩

section
variable {w w' : World} {v va vb : Value} {o a b X Y : List Cp} {i u j t r : Nat}
theorem PX.x (h : PX a b X Y r) (ga : Good a) (gb : Good b) : inS (normS X) = outS b ∧ inS (normS Y) = outS a ∧ outS (normS X) = r ∧ outS (normS Y) = r ∧ Good (normS X) ∧ Good (normS Y) := by
  refine ⟨by rw [in_norm _ h.pa.gx, h.pa.ix, out_norm _ gb], by rw [in_norm _ h.pa.gy, h.pa.iy, out_norm _ ga], by rw [out_norm _ h.pa.gx, h.outs], by rw [out_norm _ h.pa.gy, ← h.pa.oo, h.outs], norm_good h.pa.gx, norm_good h.pa.gy⟩
theorem pair_ob (ha : Ob w va a i u) (hb : Ob w vb b i t) (hP : PX a b X Y r) (hr : r ≤ 400) :
    Calls Try.prog 8 #[va, vb] w fun e w' => ∃ vx vy, e = .returned (.tuple #[vx, vy, .int .i64 0]) ∧ Ob w' vx (normS X) t r ∧ Ob w' vy (normS Y) u r ∧ Below w.heap.size w w' := by
  have h1 := ha.ins
  have h2 := ha.outs
  have h3 := hb.ins
  have h4 := hb.outs
  have h5 := ha.hi
  have h6 := ha.hu
  have h7 := hb.hu
  have h8 := ha.len
  have h9 := hb.len
  refine (Pair_any va vb a b X Y w ha.rc hb.rc ha.fit hb.fit ha.good hb.good (by omega) (by omega) (by omega) (by omega) (by omega) (fun _ => hP.pr)).mono ?_
  rintro e w' ⟨_, h, hb'⟩
  obtain ⟨vx, vy, rfl, hX, hY⟩ := h (by omega)
  obtain ⟨k1, k2, k3, k4, k5, k6⟩ := hP.x ha.good hb.good
  exact ⟨vx, vy, rfl, ⟨hX.reads, k5, by omega, k3, h7, hr⟩, ⟨hY.reads, k6, by omega, k4, h6, hr⟩, hb'⟩
theorem pair_bad (ha : Ob w va a i u) (hb : Ob w vb b j t) (hne : i ≠ j) :
    Calls Try.prog 8 #[va, vb] w fun e w' => e = .returned (.tuple #[.slice none 0 0, .slice none 0 0, .int .i64 7]) ∧ Below w.heap.size w w' := by
  have h1 := ha.ins
  have h2 := ha.outs
  have h3 := hb.ins
  have h4 := hb.outs
  have h5 := ha.hi
  have h6 := ha.hu
  have h7 := hb.hu
  have h8 := ha.len
  have h9 := hb.len
  have h10 := hb.hi
  refine (Pair_any va vb a b [] [] w ha.rc hb.rc ha.fit hb.fit ha.good hb.good (by omega) (by omega) (by omega) (by omega) (by omega) (fun h => absurd h (by omega))).mono ?_
  rintro e w' ⟨h, _, hb'⟩
  exact ⟨h (by omega), hb'⟩
end
end Go.Proofs.Ytlgdllbhddnokab
