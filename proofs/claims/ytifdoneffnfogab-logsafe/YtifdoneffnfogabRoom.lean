/- The contract of room: a copy of what reads as xs, in a new row. -/
import Derived.Test.YtifdoneffnfogabSplit
namespace Go.Proofs.Ytifdoneffnfogab
open Go.RowKit

set_option maxRecDepth 100000 in
set_option maxHeartbeats 400000 in
theorem room_nat (v : Value) (xs : List Value) (more : Nat) (w : World) (hr : Reads w v xs) (h1 : ∀ u ∈ xs, u.oneCell' = true) (hb : xs.length + more ≤ 140737488355328) :
    Calls Try.prog 37 #[v, .int .i64 more] w fun e w' => ∃ g cap, e = .returned (.slice (some ⟨g, 0, none⟩) xs.length cap) ∧ w.heap.size ≤ g ∧ Owns w' 5 g cap xs.length xs ∧ Below w.heap.size w w' := by
  obtain ⟨i0, hi, hz0, hz1, hz2⟩ := info_parts Try.infoByte
  have HR : Hid (Reads w v xs) := hr
  obtain ⟨ao, c, rfl, hc, hn, hcell⟩ := hr
  clear hn hcell
  have hl : ∃ n, n = xs.length := ⟨_, rfl⟩
  obtain ⟨n, hn⟩ := hl
  rw [← hn] at hc hb HR ⊢
  have HN : Hid (n = xs.length) := hn
  clear hn
  have HL : Hid (∀ w1 w2 : World, w.grownBy w1 (some w.heap.size) → w1.grownBy w2 (some w.heap.size) → Below w.heap.size w w2 ∧ Reads w1 (.slice ao n c) xs) := by
    intro w1 w2 a b
    have b1 : Below w.heap.size w w1 := (Below.refl _ _).grown a (Nat.le_refl _) (fun k hk => by cases hk; exact Nat.le_refl _)
    exact ⟨b1.grown b a.size (fun k hk => by cases hk; exact Nat.le_refl _), HR.out.later b1⟩
  have h2 : Hid (∀ u ∈ xs, u.oneCell' = true) := h1
  clear h1
  go_enter Try.func37, Try.ntmps37
  go_wp2_with (first | (at_make; go_must (refine wpList_make_row _ rfl _ _ 31 rfl 5 i0 (.int .u8 0) Try.underlying31 hi hz0 hz1 hz2 .i64 .i64 _ _ n (n + more) rfl rfl rfl (by omega) (by omega) hb ?_); intro w1 zs hO1 hg1 hs1) | (show wpList _ _ _ (⟨_, Op.call ⟨Callee.builtin Builtin.copy, _, _⟩, _, _, _, _⟩ :: _) _ _; go_must (refine wpList_copy_row _ rfl _ _ 31 31 rfl 5 i0 Try.underlying31 hi hz1 w.heap.size (n + more) n zs rfl hO1 (.slice ao n c) xs rfl (HL.out _ _ hg1 (World.grownBy.refl _ _)).2 HN.out.symm h2.out ?_); intro w2 hO2 hg2 hs2))
  go_ret
  exact ⟨w.heap.size, n + more, rfl, Nat.le_refl _, hO2, (HL.out _ _ hg1 hg2).1⟩

theorem room_any (v : Value) (xs : List Value) (more : Int) (h0 : 0 ≤ more) (w : World) (hr : Reads w v xs) (h1 : ∀ u ∈ xs, u.oneCell' = true) (hb : xs.length + more ≤ 140737488355328) :
    Calls Try.prog 37 #[v, .int .i64 more] w fun e w' => ∃ g cap, e = .returned (.slice (some ⟨g, 0, none⟩) xs.length cap) ∧ w.heap.size ≤ g ∧ Owns w' 5 g cap xs.length xs ∧ Below w.heap.size w w' := by
  obtain ⟨m, rfl⟩ := Int.eq_ofNat_of_zero_le h0
  exact room_nat v xs m w hr h1 (by omega)
end Go.Proofs.Ytifdoneffnfogab
