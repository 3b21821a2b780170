/- The contract of the laws' own function text (chapter 7): so many bytes. -/
import Derived.Test.YtlgdllbhddnokabMakeB
import Derived.Test.YtlgdllbhddnokabApplB
import Derived.OwnWalk
namespace Go.Proofs.Ytlgdllbhddnokab
open Go.RowKit
set_option linter.unusedSimpArgs false
set_option linter.unusedVariables false

set_option maxRecDepth 100000 in
set_option maxHeartbeats 1000000 in
theorem text_any (n : Nat) (hn : n ≤ 400) (w : World) :
    Calls Try.prog 16 #[.int .i64 (n : Int)] w fun e w' => ∃ d : ByteArray, e = .returned (.string d) ∧ d.size = n ∧ Below w.heap.size w w' := by
  obtain ⟨i0, hi, hz0, hz1, hz2⟩ := info_parts Try.infoByte
  obtain ⟨g, hg⟩ : ∃ g, w.heap.size = g := ⟨_, rfl⟩
  have hif : ¬ (n : Int) < 0 := by omega
  go_enter Try.func16, Try.ntmps16
  go_wp2_with (at_make; go_must (refine wpList_make_blk rfl _ _ 33 rfl 5 i0 Try.underlying33 hi hz0 hz1 hz2 .i64 .i64 n rfl rfl ?hb g hg ?_))
  case hb => omega
  intro w1 hB1 hb1 hs1
  have HB1 := hid hB1
  have Hb1 := hid (show Below w.heap.size w w1 by rw [hg]; exact hb1)
  have HG := hid hg
  clear hB1 hb1 hs1 hg
  go_wp2_with fail
  go_loopw [4] (fun iv wr => ∃ (j : Nat) (l : List UInt8), j ≤ n ∧ iv = .int .i64 j ∧ l.length = n ∧ Blk wr 5 g (B l) ∧ Below w.heap.size w wr) (fun iv _ => n - (intOf iv).toNat)
  case atStart => exact ⟨0, List.replicate n 0, Nat.zero_le _, rfl, by simp, HB1.out, Hb1.out⟩
  case round =>
    clear HB1 Hb1
    obtain ⟨j, l, hj, rfl, hl, hB, hb⟩ := hrel
    have Hb := hid hb
    have HB := hid hB
    have HL := hid hl
    by_cases hlt : j < n
    · have hlt' : (j : Int) < (n : Int) := by omega
      obtain ⟨x, hx⟩ : ∃ x, l[j]? = some x := ⟨_, List.getElem?_eq_getElem (by omega)⟩
      have c0 : wr.cell? ⟨g, j, none⟩ = some (.int .u8 (x.toNat : Int)) := hB.cell (by rw [B_get, hx]; rfl)
      have f0 := hB.frozen j
      clear hb hB hl hx
      go_wp2_with fail
      have HB2 := hid (show Blk (wr.setCell ⟨g, j, none⟩ (.int .u8 (65 + (j : Int) % 26))) 5 g (B (l.set j (UInt8.ofNat (65 + j % 26)))) by
        have h1 := HB.out.setCell j (.int .u8 (65 + (j : Int) % 26))
        have h2 : B (l.set j (UInt8.ofNat (65 + j % 26))) = (B l).set j (.int .u8 (65 + (j : Int) % 26)) := by
          have e : (65 + (j : Int) % 26) = (((UInt8.ofNat (65 + j % 26)).toNat : Nat) : Int) := by rw [UInt8.toNat_ofNat']; omega
          rw [e]
          simp [B, List.map_set]
        rw [h2]
        exact h1)
      go_roundw
      case rel => exact ⟨j + 1, _, by omega, by go_num, by rw [List.length_set]; exact HL.out, HB2.out, Hb.out.setCell (p := ⟨g, j, none⟩) (by rw [HG.out]; exact Nat.le_refl _) _⟩
      case measure => simp [intOf]; omega
    · have hj2 : j = n := by omega
      subst hj2
      have hst := run_string (P := Try.prog) wr 33 9 5 Try.underlying33 Try.underlying5 Try.underlying9 (show Reads wr (.slice (some ⟨g, 0, none⟩) j j) (B l) from ⟨some ⟨g, 0, none⟩, j, by rw [B_length, hl], by rw [B_length, hl]; exact Nat.le_refl _, fun h => (by cases h), fun ad he k u hk => by cases he; rw [Addr.add_lit, Nat.zero_add]; exact hB.cell hk⟩)
      have HD := hid (show (⟨l.toArray⟩ : ByteArray).size = j by rw [size_list]; exact hl)
      generalize (⟨l.toArray⟩ : ByteArray) = d at *
      clear hb hB hl
      go_wp2_with fail
      go_ret
      exact ⟨d, rfl, HD.out, Hb.out⟩
end Go.Proofs.Ytlgdllbhddnokab
