/- The contracts of slices.Clone of an operation, and of bytes.Clone with where its answer lies. -/
import Derived.Test.YtinifnpajkldbaaDoorPk3
import Derived.Test.YtinifnpajkldbaaDoorPk4
namespace Go.Proofs.YtinifnpajkldbaaDoor
open Go.RowKit
set_option linter.unusedSimpArgs false
set_option linter.unusedVariables false

set_option maxRecDepth 100000 in
set_option maxHeartbeats 1000000 in
theorem cloneOp_any (v : Value) (o : List Cp) (w : World) (hv : RC w v o) (hn : o.length ≤ 1000) :
    Calls Tryd.prog 49 #[v] w fun x w' => ∃ v', x = .returned v' ∧ HasC w' w.heap.size v' o ∧ Below w.heap.size w w' := by
  have HV := hid hv
  have h0 : v = .slice none 0 0 ∧ o = [] ∨ ∃ ad cap, v = .slice (some ad) o.length cap := by
    rcases hv with ⟨ao, cap, rfl, rfl, h0⟩ | ⟨g, off, cap, rfl, _⟩
    · cases ao with
      | none => rw [h0 rfl]; exact .inl ⟨rfl, rfl⟩
      | some ad => exact .inr ⟨ad, cap, rfl⟩
    · exact .inr ⟨_, cap, rfl⟩
  rcases h0 with ⟨rfl, rfl⟩ | ⟨ad, cap, rfl⟩
  · have hE := run_isNil (P := Tryd.prog) w 28 62 none 0 0 Tryd.underlying28
    go_enter Tryd.func49, Tryd.ntmps49
    go_wp2_with fail
    go_ret
    exact ⟨_, rfl, HasC.nil _ _, Below.refl _ _⟩
  · obtain ⟨n, hn2⟩ : ∃ n, o.length = n := ⟨_, rfl⟩
    have HN := hid hn2
    rw [hn2] at HV ⊢
    have hE := run_isNil (P := Tryd.prog) w 28 62 (some ad) n cap Tryd.underlying28
    clear hv hn2
    go_enter Tryd.func49, Tryd.ntmps49
    go_wp2_with (at_builtin; go_must (refine wpList_append_c rfl _ _ rfl w.heap.size _ [] rfl (parts_new w [] 0 rfl) (by simp) _ o rfl (HV.out.later ((Below.refl _ _).alloc (Nat.le_refl _) _)) (by have := HN.out; simp; omega) ?_); intro v2 w2 hH2 hb2; have HH2 := hid hH2; have Hb2 := hid hb2; clear hH2 hb2)
    go_ret
    refine ⟨v2, rfl, HH2.out, ?_⟩
    exact ((Below.refl w.heap.size w).alloc (Nat.le_refl _) (.cells (C []).toArray 62)).trans Hb2.out

theorem Has.kept9 {w w' : World} {e : TypeId} {Bd : Nat} {v : Value} {n : Nat} {xs : List Value} (h : Has w e Bd v n xs) (kp : ∀ k, Bd ≤ k → w'.heap[k]? = w.heap[k]?) : Has w' e Bd v n xs := by
  rcases h with h | ⟨g, cap, rfl, h1, h2⟩
  · exact .inl h
  · exact .inr ⟨g, cap, rfl, h1, h2.kept (kp g h1)⟩

set_option maxRecDepth 100000 in
set_option maxHeartbeats 400000 in
theorem clone_new (v : Value) (l : List UInt8) (w : World) (hr : Reads w v (B l)) (hl : l.length ≤ 140737488355328) :
    Calls Tryd.prog 48 #[v] w fun x w' => ∃ ao cap, x = .returned (.slice ao l.length cap) ∧ Has w' 5 w.heap.size (.slice ao l.length cap) l.length (B l) ∧ Below w.heap.size w w' := by
  obtain ⟨i0, hi, hz0, hz1, hz2⟩ := info_parts Tryd.infoByte
  have HR : Hid (Reads w v (B l)) := hr
  obtain ⟨ao, c, rfl, hc, hn, hcell⟩ := hr
  rw [B_length] at hc HR ⊢
  cases ao with
  | none =>
    have h0 := hn rfl
    subst h0
    have h00 : l = [] := List.length_eq_zero_iff.1 (by omega)
    subst h00
    clear hn hcell
    have hE := run_isNil (P := Tryd.prog) w 22 5 none 0 0 Tryd.underlying22
    go_enter Tryd.func48, Tryd.ntmps48
    go_wp2_with fail
    go_ret
    exact ⟨none, 0, rfl, Has.nil _ _ _, Below.refl _ _⟩
  | some ad =>
    clear hn hcell
    have hE := run_isNil (P := Tryd.prog) w 22 5 (some ad) l.length c Tryd.underlying22
    go_enter Tryd.func48, Tryd.ntmps48
    go_wp2_with (at_builtin; go_must (refine wpList_append_src _ rfl _ _ 22 22 rfl 5 i0 (.int .u8 0) Tryd.underlying22 hi hz0 hz1 hz2 rfl w.heap.size 0 0 [] rfl (Owns.empty _ _) _ l.length (B l) rfl (Src.ofBytes _ Tryd.underlying22 rfl (HR.out.later ((Below.refl _ _).alloc (Nat.le_refl _) _))) (by omega) ?_); intro g2 cap2 w2 hG2)
    go_ret
    have hO := hG2.own
    rw [Nat.zero_add, List.nil_append] at hO
    refine ⟨some ⟨g2, 0, none⟩, cap2, by simp, .inr ⟨g2, cap2, rfl, ?_, hO⟩, hG2.below ((Below.refl _ _).alloc (Nat.le_refl _) _) (Nat.le_refl _)⟩
    rcases hG2.blk with ⟨h, _⟩ | h
    · omega
    · simp at h; omega
end Go.Proofs.YtinifnpajkldbaaDoor
