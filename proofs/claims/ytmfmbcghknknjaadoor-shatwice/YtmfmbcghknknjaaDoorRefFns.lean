/- The second say's words and Hex, and what its Sum's loops are. -/
import Derived.Test.YtmfmbcghknknjaaDoorGen2
import Derived.BigQuiet
namespace Go.Proofs.YtmfmbcghknknjaaDoor
open Go.RowKit
set_option linter.unusedSimpArgs false
set_option linter.unusedVariables false
attribute [local go_sem] wadd wadd' wxor wand wnot

def loopsOf : Code → List Code
  | .loop c => c :: loopsOf c
  | .seq a b => loopsOf a ++ loopsOf b
  | .block _ c => loopsOf c
  | .scope c => loopsOf c
  | .cond _ a b => loopsOf a ++ loopsOf b
  | _ => []
def rb (b : Option Code) (k : Nat) : Code := (loopsOf (b.getD .skip)).getD k .skip

theorem keysZ_eq : (U K) = (K.map nt).map (Value.int .u32) := by simp [U]

set_option maxRecDepth 100000 in
set_option maxHeartbeats 1000000 in
theorem words_any (w : World) : Calls Tryd.prog 16 #[] w fun e w' => e = .returned (.agg (U K).toArray) ∧ Below w.heap.size w w' := by
  obtain ⟨L, hL⟩ : ∃ L, w.heap.size = L := ⟨_, rfl⟩
  obtain ⟨us, hus⟩ : ∃ us, U K = us := ⟨_, rfl⟩
  have hul : us.length = 64 := by rw [← hus, U_length, K_len]
  have hi := hid (show (Tryd.prog.info? 42).map (·.size) = some us.length by rw [hul]; kernel_rfl)
  have ho := hid (show ∀ v ∈ us, v.oneCell' = true by rw [← hus]; exact U_one K)
  have HE := hid hus
  have HUL := hid hul
  clear hus hul
  go_enter Tryd.func16, Tryd.ntmps16
  go_wp2_with (first
    | (show wpList _ _ _ (⟨some 0, Op.alloc _, _, _, _, _⟩ :: _) _ _; go_must (refine wpList_alloc_blk rfl 42 rfl _ zero64 L hL ?_); intro w1 hB1 hb1 hs1; replace hB1 := hid hB1; replace hb1 := hid hb1; have ht1 := hid (show w1.there L 0 us.length from hB1.out.there (by rw [U_length, List.length_replicate, HUL.out]; omega)))
    | (show wpList _ _ _ (⟨some 1, Op.build _ _, _, _, _, _⟩ :: _) _ _; go_must (refine wpList_buildFlatArrTo rfl 42 38 64 _ rfl .u32 (K.map nt) (some 1) rfl Tryd.underlying42 Tryd.sizeWord (by kernel_rfl) (by kernel_rfl) ?_); rw [← keysZ_eq, HE.out])
    | (show wpList _ _ _ (⟨none, Op.store _ _ _, _, _, _, _⟩ :: _) _ _; go_must (refine wpList_store_list rfl 42 _ _ rfl L 0 us rfl rfl ht1.out hi.out ho.out ?_); intro w2 hw2; replace hw2 := hid hw2))
  refine ret_cell 0 42 rfl L rfl us _ ?_ Tryd.underlying42 rfl hi.out rfl ⟨by rw [HE.out], ?_⟩
  · rw [hw2.out]
    exact World.rangeAt_setCells_same w1 L 0 us ht1.out
  · rw [hw2.out, hL]
    exact below_setCells (Nat.le_refl _) _ _ hb1.out

theorem four (m : List UInt8) (i : Nat) (h : 4 * i + 4 ≤ m.length) (h64 : 4 * i + 4 ≤ 64) :
    part m 64 i = byteOn (byteOn (byteOn (byteOn 0 (m.getD (4 * i) 0)) (m.getD (4 * i + 1) 0)) (m.getD (4 * i + 2) 0)) (m.getD (4 * i + 3) 0) := by
  have e : ((m.take 64).drop (4 * i)).take 4 = [m.getD (4 * i) 0, m.getD (4 * i + 1) 0, m.getD (4 * i + 2) 0, m.getD (4 * i + 3) 0] := by
    apply List.ext_getElem?
    intro j
    rw [List.getElem?_take, List.getElem?_drop, List.getElem?_take]
    match j with
    | 0 | 1 | 2 | 3 =>
      rw [if_pos (by omega), if_pos (by omega)]
      try simp only [Nat.add_zero]
      rw [List.getElem?_eq_getElem (by omega)]
      simp [List.getD_eq_getElem?_getD, List.getElem?_eq_getElem (show 4 * i < m.length by omega), List.getElem?_eq_getElem (show 4 * i + 1 < m.length by omega), List.getElem?_eq_getElem (show 4 * i + 2 < m.length by omega), List.getElem?_eq_getElem (show 4 * i + 3 < m.length by omega)]
    | j + 4 =>
      rw [if_neg (by omega)]
      simp
  unfold part
  rw [e]
  rfl
end Go.Proofs.YtmfmbcghknknjaaDoor
