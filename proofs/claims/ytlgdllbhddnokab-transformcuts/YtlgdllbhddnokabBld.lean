/- A strings.Builder of the call's own: the contracts of WriteString, Len and String. -/
import Derived.Test.YtlgdllbhddnokabApplB
import Derived.Lib.Builder
import Derived.Lib.UnsafeStr
namespace Go.Proofs.Ytlgdllbhddnokab
open Go.RowKit
set_option linter.unusedSimpArgs false
set_option linter.unusedVariables false

theorem Try.infoBuilder : (Try.prog.info? 68).map (·.size) = some 2 := by kernel_rfl
theorem Try.liesBuilder : liesAt Try.prog Try.prog.depth 68 (2 / Try.prog.cellsOf 68) 0 68 1 = true := by kernel_rfl
theorem Try.cellsByte : Try.prog.cellsOf 5 = 1 := by kernel_rfl

/-- A place of the builder itself. -/
def me (b : Nat) : Value := .pointer (some ⟨b, 0, none⟩)
/-- Block b is a builder that holds l; its bytes lie in a later block. -/
def BD (w : World) (b : Nat) (p : Value) (l : List UInt8) : Prop := ∃ bv, Blk w 68 b [p, bv] ∧ Has w 5 (b + 1) bv l.length (B l)

theorem BD.later {w w' : World} {b : Nat} {p : Value} {l : List UInt8} (h : BD w b p l) (hb : Below w.heap.size w w') : BD w' b p l := by
  obtain ⟨bv, h1, h2⟩ := h
  exact ⟨bv, h1.later hb, h2.later hb⟩
theorem BD.lt {w : World} {b : Nat} {p : Value} {l : List UInt8} (h : BD w b p l) : b < w.heap.size := by
  obtain ⟨bv, h1, h2⟩ := h
  exact h1.lt

set_option maxHeartbeats 1000000 in
set_option maxRecDepth 100000 in
theorem copyCheck_used (b : Nat) (w : World) (h0 : w.cell? ⟨b, 0, none⟩ = some (me b)) :
    Calls Try.prog 41 #[me b] w fun e w' => e = .returned (.tuple #[]) ∧ w' = w := by
  obtain ⟨j, hj, _⟩ := Option.map_eq_some_iff.1 Try.infoBuilder
  unfold me at h0 ⊢
  go_enter Try.func41, Try.ntmps41
  go_wp2
  rw [Lib.run_neq_ptr_same w _ Try.underlying66 hj]
  go_wp2
  go_end0
  exact ⟨rfl, rfl⟩

set_option maxHeartbeats 1000000 in
set_option maxRecDepth 100000 in
theorem copyCheck_new (b : Nat) (w : World) (bv : Value) (hB : Blk w 68 b [.pointer none, bv]) :
    Calls Try.prog 41 #[me b] w fun e w' => e = .returned (.tuple #[]) ∧ w' = w.setCell ⟨b, 0, none⟩ (me b) := by
  obtain ⟨j, hj, hjs⟩ := Option.map_eq_some_iff.1 Try.infoBuilder
  have h0 : w.cell? ⟨b, 0, none⟩ = some (.pointer none) := hB.cell rfl
  have hfz : w.frozen? ⟨b, 0, none⟩ = false := hB.frozen 0
  have hsh : w.shape? b = some (68, 2) := by unfold Blk at hB; simp [World.shape?, hB]
  clear hB
  unfold me
  go_enter Try.func41, Try.ntmps41
  go_wp2
  rw [Lib.run_to_unsafe w ⟨b, 0, none⟩ Try.underlying66 Try.underlying75 hj (by rw [hjs]; decide) hsh (Nat.zero_lt_succ 1)]
  simp only [Result.andThen]
  rw [Oper.upon_value]
  go_wp2
  rw [run_callFunc_extern Try.func42 (by kernel_rfl) (by kernel_rfl) (by kernel_rfl) (e := Extern.AbiNoEscape.same) (by kernel_rfl)]
  rw [Lib.run_noEscape]
  simp only [Result.andThen]
  rw [Oper.upon_value]
  go_wp2
  rw [Lib.run_from_unsafe w ⟨b, 0, none⟩ Try.underlying75 Try.underlying66 hj hsh Try.liesBuilder]
  simp only [Result.andThen]
  rw [Oper.upon_value]
  go_wp2
  go_end0
  exact ⟨rfl, rfl⟩

theorem copyCheck_any (b : Nat) (p : Value) (hp : p = .pointer none ∨ p = me b) (l : List UInt8) (w : World) (hB : BD w b p l) :
    Calls Try.prog 41 #[me b] w fun e w' => e = .returned (.tuple #[]) ∧ BD w' b (me b) l ∧ Below b w w' := by
  obtain ⟨bv, h1, h2⟩ := hB
  rcases hp with rfl | rfl
  · refine (copyCheck_new b w bv h1).mono ?_
    rintro _ w' ⟨rfl, rfl⟩
    refine ⟨rfl, ⟨bv, h1.setCell 0 _, ?_⟩, (Below.refl b w).setCell (p := ⟨b, 0, none⟩) (Nat.le_refl _) _⟩
    rcases h2 with h2 | ⟨g, cap, rfl, h3, h4⟩
    · exact .inl h2
    · exact .inr ⟨g, cap, rfl, h3, h4.kept (heap_setCell_other _ _ _ _ (by show g ≠ b; omega))⟩
  · refine (copyCheck_used b w (h1.cell rfl)).mono ?_
    rintro _ w' ⟨rfl, rfl⟩
    exact ⟨rfl, ⟨bv, h1, h2⟩, Below.refl b _⟩

set_option maxHeartbeats 1000000 in
set_option maxRecDepth 100000 in
theorem Len_any (b : Nat) (p : Value) (l : List UInt8) (w : World) (hB : BD w b p l) :
    Calls Try.prog 38 #[me b] w fun e w' => e = .returned (.int .i64 l.length) ∧ w' = w := by
  obtain ⟨bv, h1, h2⟩ := hB
  obtain ⟨ao, cap, rfl⟩ := h2.form
  have c1 : w.cell? ⟨b, 1, none⟩ = some (.slice ao l.length cap) := h1.cell rfl
  clear h1 h2
  unfold me
  go_enter Try.func38, Try.ntmps38
  go_wp2
  go_ret
  exact ⟨rfl, rfl⟩

set_option maxHeartbeats 1000000 in
set_option maxRecDepth 100000 in
theorem Write_any (b : Nat) (p : Value) (hp : p = .pointer none ∨ p = me b) (l : List UInt8) (s : ByteArray) (hs : 0 < s.size) (hb : l.length + s.size ≤ 140737488355328) (w : World) (hB : BD w b p l) :
    Calls Try.prog 37 #[me b, .string s] w fun e w' => e = .returned (.tuple #[.int .i64 s.size, .nilIface]) ∧ BD w' b (me b) (l ++ s.data.toList) ∧ Below b w w' := by
  obtain ⟨i0, hi, hz0, hz1, hz2⟩ := info_parts Try.infoByte
  have HB := hid hB
  clear hB
  go_enter Try.func37, Try.ntmps37
  go_wp2_with fail
  refine (copyCheck_any b p hp l _ HB.out).mono ?_
  rintro _ w1 ⟨rfl, ⟨bv, h1, h2⟩, hb1⟩
  obtain ⟨ao, cap, rfl⟩ := h2.form
  have c1 : w1.cell? ⟨b, 1, none⟩ = some (.slice ao l.length cap) := h1.cell rfl
  have hlt := h1.lt
  have H1 := hid h1
  have H2 := hid h2
  have Hb1 := hid hb1
  clear h1 h2 hb1 HB hp
  unfold me
  go_wp2_with (at_builtin; go_must (refine wpList_append_has _ rfl _ _ 33 9 rfl 5 i0 (.int .u8 0) Try.underlying33 hi hz0 hz1 hz2 rfl (b + 1) _ _ _ rfl H2.out (by omega) _ _ _ rfl (Src.ofString _ Try.underlying9 s) hs hb ?_))
  intro v2 w2 hH2 hb2
  rw [byteCells_B, ← B_append] at hH2
  obtain ⟨ao2, cap2, rfl⟩ := hH2.form
  have H3 := hid hH2
  have hB2 : Blk w2 68 b [me b, .slice ao l.length cap] := H1.out.kept (hb2.block b (by omega))
  have c2 : w2.cell? ⟨b, 1, none⟩ = some (.slice ao l.length cap) := hB2.cell rfl
  have f2 := hB2.frozen 1
  have HB2 := hid hB2
  have Hb2 := hid (show Below b w w2 from Hb1.out.trans (hb2.mono (by omega)))
  clear hH2 hB2 hb2 c1
  go_wp2_with fail
  go_ret2
  have hl2 : (l ++ s.data.toList).length = l.length + s.size := by rw [List.length_append, ← size_list]
  refine ⟨rfl, ⟨.slice ao2 (l.length + s.size) cap2, HB2.out.setCell 1 _, ?_⟩, Hb2.out.setCell (p := ⟨b, 1, none⟩) (Nat.le_refl _) _⟩
  rw [hl2]
  rcases H3.out with ⟨h3, h4, h5⟩ | ⟨g, c, h3, h4, h5⟩
  · omega
  · exact .inr ⟨g, c, h3, h4, h5.kept (heap_setCell_other _ _ _ _ (by show g ≠ b; omega))⟩

set_option maxHeartbeats 1000000 in
set_option maxRecDepth 100000 in
theorem String_any (b : Nat) (p : Value) (l : List UInt8) (h0 : l ≠ []) (w : World) (hB : BD w b p l) :
    Calls Try.prog 39 #[me b] w fun e w' => e = .returned (.string ⟨l.toArray⟩) ∧ Below b w w' := by
  obtain ⟨bv, h1, h2⟩ := hB
  have hl : l.length ≠ 0 := by simpa using h0
  rcases h2 with ⟨_, h2, _⟩ | ⟨g, cap, rfl, hg, hO⟩
  · exact absurd h2 hl
  have h3 := hO
  obtain ⟨k1, k2, k3, cur, kg, kc, kt⟩ := h3
  have c1 : w.drew.cell? ⟨b, 1, none⟩ = some (.slice (some ⟨g, 0, none⟩) l.length cap) := h1.cell rfl
  have hSD : (Builtin.unsafeSliceData_ #[33] 74 #[.slice (some ⟨g, 0, none⟩) l.length cap]).run Try.prog w.drew = .ok (.pointer (some ⟨g, 0, none⟩)) w.drew :=
    Lib.run_unsafeSliceData_row _ _ _ _ _ _ (by omega)
  have hUS : (Builtin.unsafeString_ #[74, 3] 9 #[.pointer (some ⟨g, 0, none⟩), .int .i64 l.length]).run Try.prog w.drew = .ok (.string ⟨l.toArray⟩) (w.drew.freeze ⟨g, 0, none⟩ l.length) := by
    refine Lib.run_unsafeString_row w.drew 74 3 9 5 Try.underlying74 Try.cellsByte g cur.size (by have kg' : w.drew.heap[g]? = some (.cells cur 5 (0, 0)) := kg; simp [World.shape?, kg']) l h0 (by omega) (by unfold maxLen at k3; omega) ?_
    intro j x hx
    rw [Addr.add_lit, Nat.zero_add]
    exact hO.drew.cell (by rw [B_get, hx]; rfl)
  have hbg : b ≤ (⟨g, 0, none⟩ : Addr).block := by show b ≤ g; omega
  clear h1 hO k1 k2 k3 kg kc kt h0 hg
  unfold me
  go_enter Try.func39, Try.ntmps39
  go_wp2
  go_region
  all_goals (go_wp2; go_ret; exact ⟨rfl, Lib.below_freeze (Below.drew (Below.refl b w)) (p := ⟨g, 0, none⟩) hbg _⟩)
end Go.Proofs.Ytlgdllbhddnokab
