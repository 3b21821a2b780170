/- Parts of a slice of bytes: what it reads as from a place on, up to a place. -/
import Derived.Test.YtifdoneffnfogaaProg
import Derived.Test.YtifdoneffnfogaaBase
namespace Go.Proofs.Ytifdoneffnfogaa
open Go.RowKit
set_option linter.unusedSimpArgs false
set_option linter.unusedVariables false

theorem Reads.dropped {w : World} {ao : Option Addr} {len cap : Nat} {b : List UInt8} (h : Reads w (.slice ao len cap) (B b)) (n : Nat) (hn : n ≤ b.length) : Reads w (.slice (ao.map fun x => x.add n) (len - n) (cap - n)) (B (b.drop n)) := by
  obtain ⟨ao', c, e, hc, hnone, hcell⟩ := h
  injection e with e1 e2 e3
  subst e1
  subst e2
  subst e3
  rw [B_length] at hc ⊢
  refine ⟨ao.map fun x => x.add n, cap - n, by rw [B_length, List.length_drop], by rw [B_length, List.length_drop]; omega, ?_, ?_⟩
  · intro h
    have : ao = none := by simpa using h
    have := hnone this
    omega
  · intro ad he j u hj
    cases ao with
    | none => simp at he
    | some x =>
      simp only [Option.map_some, Option.some.injEq] at he
      subst he
      rw [Addr.add_add]
      refine hcell x rfl (n + j) u ?_
      rw [B_get] at hj ⊢
      rw [List.getElem?_drop] at hj
      exact hj

/-- A part of what reads as bytes. -/
theorem Reads.seg {w : World} {ao : Option Addr} {bl cap : Nat} {m : List UInt8} (h : Reads w (.slice ao bl cap) (B m)) (p k : Nat) (hpk : p + k ≤ m.length) : Reads w (.slice (ao.map fun x => x.add p) k (cap - p)) (B ((m.drop p).take k)) := by
  have hd := h.dropped p (by omega)
  obtain ⟨ao', c, e, hc, hnone, hcell⟩ := hd
  injection e with e1 e2 e3
  subst e1
  subst e3
  have hkl : ((m.drop p).take k).length = k := by rw [List.length_take, List.length_drop]; omega
  rw [B_length, List.length_drop] at hc
  refine ⟨_, _, by rw [B_length, hkl], by rw [B_length, hkl]; omega, hnone, fun ad he j u hj => hcell ad he j u ?_⟩
  rw [B_get] at hj ⊢
  rw [List.getElem?_take] at hj
  split at hj
  · exact hj
  · simp at hj

theorem cut_low (bo : Option Addr) (M bc k : Nat) (m : List UInt8) (hM : m.length = M) (hk : k ≤ M) (hMc : M ≤ bc) (hc : bc ≤ maxLen) :
    ∃ p c, c ≤ maxLen ∧ (∀ wx, (Instr.slice 37 (.slice bo M bc) none (some (.int .i64 (k : Int))) none).run Try.prog wx = .ok (.slice p k c) wx) ∧ ∀ w', Reads w' (.slice bo M bc) (B m) → Reads w' (.slice p k c) (B (m.take k)) := by
  by_cases h0 : bc = 0
  · subst h0
    have hk0 : k = 0 := by omega
    have hM0 : M = 0 := by omega
    subst hk0
    subst hM0
    refine ⟨bo, 0, Nat.zero_le _, fun wx => ?_, fun w' _ => ⟨bo, 0, rfl, Nat.le_refl _, fun _ => rfl, fun _ _ _ _ hj => by simp [B] at hj⟩⟩
    go_simp
  · refine ⟨bo.map fun x => x.add 0, bc - 0, by omega, fun wx => ?_, fun w' hr => ?_⟩
    · have hkc : (k : Int) ≤ (bc : Int) := by omega
      go_simp
    · exact hr.seg 0 k (by omega)

theorem cut_up (bo : Option Addr) (M bc k : Nat) (m : List UInt8) (hM : m.length = M) (hk : k ≤ M) (hMc : M ≤ bc) (hc : bc ≤ maxLen) :
    ∃ p c, c ≤ maxLen ∧ (∀ wx, (Instr.slice 37 (.slice bo M bc) (some (.int .i64 (k : Int))) none none).run Try.prog wx = .ok (.slice p (M - k) c) wx) ∧ ∀ w', Reads w' (.slice bo M bc) (B m) → Reads w' (.slice p (M - k) c) (B (m.drop k)) := by
  by_cases h0 : bc = k
  · subst h0
    have hM0 : M = bc := by omega
    subst hM0
    refine ⟨bo, 0, Nat.zero_le _, fun wx => ?_, fun w' _ => ?_⟩
    · go_simp
    · rw [List.drop_of_length_le (by omega), Nat.sub_self]
      exact ⟨bo, 0, rfl, Nat.le_refl _, fun _ => rfl, fun _ _ _ _ hj => by simp [B] at hj⟩
  · refine ⟨bo.map fun x => x.add k, bc - k, by omega, fun wx => ?_, fun w' hr => ?_⟩
    · go_simp
    · exact hr.dropped k (by omega)
end Go.Proofs.Ytifdoneffnfogaa
