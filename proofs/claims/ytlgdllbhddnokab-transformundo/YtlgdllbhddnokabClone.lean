/- The contract of strings.Clone: the same bytes, in new memory. -/
import Derived.Test.YtlgdllbhddnokabMakeB
import Derived.Test.YtlgdllbhddnokabApplB
import Derived.Test.YtlgdllbhddnokabBld
import Derived.Lib.BufferWrite
import Derived.Lib.UnsafeStr
import Derived.OwnWalk
namespace Go.Proofs.Ytlgdllbhddnokab
open Go.RowKit
set_option linter.unusedSimpArgs false
set_option linter.unusedVariables false

/-- copy of a whole string over a block of as many bytes. -/
theorem run_copy_all (w : World) (g : Nat) (s : ByteArray) (l : List UInt8) (hB : Blk w 5 g (B l)) (hl : l.length = s.size) :
    ∃ w', (Builtin.copy_ #[33, 9] 3 #[.slice (some ⟨g, 0, none⟩) s.size s.size, .string s]).run Try.prog w = .ok (goInt s.size) w' ∧ Blk w' 5 g (B s.data.toList) ∧ Below g w w' := by
  obtain ⟨i0, hi, hz0, hz1, hz2⟩ := info_parts Try.infoByte
  have hg : w.heap[g]? = some (.cells (B l).toArray 5 (0, 0)) := hB
  have hlen : (B l).length = s.size := by rw [B_length, hl]
  have h := Lib.run_copy_row_string (P := Try.prog) w 33 9 3 5 g 0 s.size s.size s (B l).toArray 5 Try.underlying33 (by rw [hi]; simp [hz1]) hg (Nat.le_refl _) (by simp [hlen])
  have e : ((B l).toArray.toList.take 0 ++ Lib.byteCells s.data.toList ++ (B l).toArray.toList.drop (0 + s.size)).toArray = (B s.data.toList).toArray := by
    rw [List.take_zero, List.nil_append, List.drop_of_length_le (by simp [hlen]), List.append_nil, show Lib.byteCells s.data.toList = B s.data.toList by simp [Lib.byteCells, B]]
  rw [e] at h
  exact ⟨_, h, setRow_heap _ _ _ _ _ _ hg, ⟨rfl, rfl, rfl, by simp, fun k hk => setRow_other _ _ _ _ (by omega)⟩⟩

set_option maxHeartbeats 2000000 in
set_option maxRecDepth 100000 in
theorem slClone_any (s : ByteArray) (hs : s.size ≤ 1099511627776) (w : World) :
    Calls Try.prog 40 #[.string s] w fun e w' => e = .returned (.string s) ∧ Below w.heap.size w w' := by
  by_cases h0 : s.size = 0
  · have h1 : s = ⟨#[]⟩ := by
      apply ByteArray.ext
      exact Array.eq_empty_of_size_eq_zero h0
    subst h1
    go_enter Try.func40, Try.ntmps40
    go_wp2
    go_ret
    exact ⟨rfl, Below.refl _ _⟩
  obtain ⟨i0, hi, hz0, hz1, hz2⟩ := info_parts Try.infoByte
  have hne : ((s.size : Int) == 0) = false := beq_eq_false_iff_ne.2 (by omega)
  have hpos : (0 : Int) < (s.size : Int) := by omega
  go_enter Try.func40, Try.ntmps40
  go_wp2_with (at_make; go_must (refine wpList_make_blk rfl _ _ 33 rfl 5 i0 Try.underlying33 hi hz0 hz1 hz2 .i64 .i64 s.size rfl rfl ?hb w.heap.size rfl ?_))
  case hb => omega
  intro w1 hB1 hb1 hsz1
  obtain ⟨w2, hcp, hB2, hb2⟩ := run_copy_all w1 w.heap.size s _ hB1 (List.length_replicate ..)
  have hl : s.data.toList.length = s.size := by simp
  have hd : s.data.toList ≠ [] := fun e => h0 (by rw [← hl, e]; rfl)
  have hUS : (Builtin.unsafeString_ #[74, 3] 9 #[.pointer (some ⟨w.heap.size, 0, none⟩), .int .i64 s.size]).run Try.prog w2 = .ok (.string s) (w2.freeze ⟨w.heap.size, 0, none⟩ s.size) := by
    have hg2 : w2.heap[w.heap.size]? = some (.cells (B s.data.toList).toArray 5 (0, 0)) := hB2
    have := Lib.run_unsafeString_row (P := Try.prog) w2 74 3 9 5 Try.underlying74 Try.cellsByte w.heap.size (B s.data.toList).toArray.size (by simp [World.shape?, hg2]) s.data.toList hd (by simp [B_length]) (by omega) (fun j x hx => by
      rw [Addr.add_lit, Nat.zero_add]
      exact hB2.cell (by rw [B_get, hx]; rfl))
    rw [hl] at this
    exact this
  have Hb := hid (show Below w.heap.size w w2 from hb1.trans hb2)
  clear hB1 hb1 hb2 hB2 hd hl
  go_wp2_with fail
  go_ret
  exact ⟨rfl, Lib.below_freeze Hb.out (p := ⟨w.heap.size, 0, none⟩) (Nat.le_refl _) _⟩

theorem sClone_any (s : ByteArray) (hs : s.size ≤ 1099511627776) (w : World) :
    Calls Try.prog 35 #[.string s] w fun e w' => e = .returned (.string s) ∧ Below w.heap.size w w' := by
  have HC := hid (slClone_any s hs)
  clear hs
  go_enter Try.func35, Try.ntmps35
  go_wp2_with fail
  refine (HC.out _).mono ?_
  rintro _ w1 ⟨rfl, hb1⟩
  have Hb1 := hid hb1
  clear hb1
  go_wp2_with fail
  go_ret
  exact ⟨rfl, Hb1.out⟩
end Go.Proofs.Ytlgdllbhddnokab
