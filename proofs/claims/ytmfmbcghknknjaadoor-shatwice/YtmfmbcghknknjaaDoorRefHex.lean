/- The second say's Hex. -/
import Derived.Test.YtmfmbcghknknjaaDoorIsParts
import Derived.Test.YtmfmbcghknknjaaDoorKnown2
import Derived.BigQuiet
namespace Go.Proofs.YtmfmbcghknknjaaDoor
open Go.RowKit
set_option linter.unusedSimpArgs false
set_option linter.unusedVariables false

def digS : ByteArray := ⟨#[48, 49, 50, 51, 52, 53, 54, 55, 56, 57, 97, 98, 99, 100, 101, 102]⟩
theorem digS_size : digS.size = 16 := rfl
theorem digS_at (h : Nat) (hh : h < 16) : digS.extract h (h + 1) = ⟨#[dig h]⟩ := by
  match h, hh with
  | 0, _ | 1, _ | 2, _ | 3, _ | 4, _ | 5, _ | 6, _ | 7, _ | 8, _ | 9, _ | 10, _ | 11, _ | 12, _ | 13, _ | 14, _ | 15, _ => decide +kernel
  | n + 16, h => omega
theorem hexS_step (l : List UInt8) (j : Nat) (h : j < l.length) (b : UInt8) (hb : l.getD j 0 = b) : hexS (l.take j) ++ ⟨#[dig (b.toNat / 16)]⟩ ++ ⟨#[dig (b.toNat % 16)]⟩ = hexS (l.take (j + 1)) := by
  apply ByteArray.ext
  rw [ByteArray.data_append, ByteArray.data_append]
  show (hexL (l.take j)).toArray ++ #[dig (b.toNat / 16)] ++ #[dig (b.toNat % 16)] = (hexL (l.take (j + 1))).toArray
  rw [hexL_step l j h, hb]
  simp [hex2]

set_option maxRecDepth 100000 in
set_option maxHeartbeats 4000000 in
theorem refHex_any (l : List UInt8) (hl : l.length = 32) (w : World) :
    Calls Tryd.prog 13 #[.agg (B l).toArray] w fun e w' => e = .returned (.string (hexS l)) ∧ Below w.heap.size w w' := by
  obtain ⟨bs, hbs⟩ : ∃ bs, B l = bs := ⟨_, rfl⟩
  rw [hbs]
  obtain ⟨L, hL⟩ : ∃ L, w.heap.size = L := ⟨_, rfl⟩
  have HBS := hid hbs
  have HLl := hid hl
  clear hbs hl
  go_enter Tryd.func13, Tryd.ntmps13
  go_wp2_with (show wpList _ _ _ (⟨some 1, Op.box _ _, _, _, _, _⟩ :: _) _ _; go_must (refine wpList_box_blk rfl 24 _ rfl bs rfl L hL ?_); intro w1 hB1 hb1 hs1; replace hB1 := hid hB1; replace hb1 := hid hb1)
  go_loopw [4, 5] (fun out i wr => ∃ j q : Nat, j ≤ 32 ∧ i = .int .i64 j ∧ out = .string (hexS (l.take j)) ∧ wr = w1.drewN q) (fun _ i _ => 32 - (intOf i).toNat)
  case atStart => exact ⟨0, 0, Nat.zero_le _, rfl, rfl, rfl⟩
  case round =>
    obtain ⟨j, q, hj, rfl, rfl, rfl⟩ := hrel
    by_cases hlt : j < 32
    · have hlt' : (j : Int) < 32 := by omega
      have hge' : (0 : Int) ≤ (j : Int) := by omega
      obtain ⟨b, hb⟩ : ∃ b, l.getD j 0 = b := ⟨_, rfl⟩
      have c := hB1.out.cell (j := j) (u := .int .u8 b.toNat) (by rw [← HBS.out, ← hb]; exact B_getD l j (by rw [HLl.out]; exact hlt))
      have HST := hid (hexS_step l j (by rw [HLl.out]; exact hlt) b hb)
      have hb255 : (b.toNat : Int) ≤ 255 := by have := b.toNat_lt; omega
      have hb255n : b.toNat ≤ 255 := by have := b.toNat_lt; omega
      have sl := fun (h : Nat) (z : Int) (hh : h < 16) (hz : z = (h : Int)) (wx : World) => (show (Instr.slice 9 (.string ⟨#[48, 49, 50, 51, 52, 53, 54, 55, 56, 57, 97, 98, 99, 100, 101, 102]⟩) (some (.int .u8 z)) (some (.int .u8 (IntKind.u8.wrap (z + 1)))) none).run Tryd.prog wx = .ok (.string ⟨#[dig h]⟩) wx by
        subst hz
        rw [show IntKind.u8.wrap ((h : Int) + 1) = (h : Int) + 1 by rw [IntKind.wrap_u8]; omega]
        rw [run_slice_string wx 9 _ .u8 .u8 (h : Int) ((h : Int) + 1) Tryd.underlying9 (by omega) (by omega) (by show (h : Int) + 1 ≤ ((16 : Nat) : Int); omega)]
        rw [show ((h : Int) + 1).toNat = h + 1 by omega, show ((h : Int)).toNat = h by omega]
        exact congrArg (fun x => Result.ok (Value.string x) wx) (digS_at h hh))
      have sl1 := sl (b.toNat / 16) ((b.toNat : Int) / 16) (by omega) (by omega)
      have sl2 := sl (b.toNat % 16) ((b.toNat : Int) % 16) (by omega) (by omega)
      have sz0 : (hexS (l.take j)).size ≤ 64 := by show (hexL (l.take j)).length ≤ 64; rw [hexL_len, List.length_take]; omega
      have ad1 := fun wx : World => run_string_add_sum (P := Tryd.prog) (w := wx) (hexS (l.take j)) ⟨#[dig (b.toNat / 16)]⟩ (by show (hexS (l.take j)).size + 1 ≤ _; omega)
      have ad2 := fun wx : World => run_string_add_sum (P := Tryd.prog) (w := wx) (hexS (l.take j) ++ ⟨#[dig (b.toNat / 16)]⟩) ⟨#[dig (b.toNat % 16)]⟩ (by rw [ByteArray.size_append]; show (hexS (l.take j)).size + 1 + 1 ≤ _; omega)
      rw [HST.out] at ad2
      clear hb sl sz0
      go_wp2_with fail
      go_quiet (fail)
      go_wp2_with fail
      go_quiet (fail)
      go_wp2_with fail
      go_roundw
      case rel => exact ⟨j + 1, _, by omega, by go_num, rfl, rfl⟩
      case measure => simp [intOf]; omega
    · have hj32 : j = 32 := by omega
      subst hj32
      go_wp2_with fail
      go_ret
      refine ⟨by rw [List.take_of_length_le (by rw [HLl.out]; omega)]; rfl, ?_⟩
      rw [hL]
      exact below_drewN hb1.out q
end Go.Proofs.YtmfmbcghknknjaaDoor
