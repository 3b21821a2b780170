/- Texts laid together: KDead, KAt2, DkR, CutB. -/
import Derived.Test.YtifdoneffnfogaaDkS
import Derived.Test.YtifdoneffnfogaaKAt0
import Derived.Test.YtifdoneffnfogaaKMore
import Derived.Test.YtifdoneffnfogaaProg
import Derived.Test.YtifdoneffnfogaaBase

/- The contract of package disk's Dead. -/
namespace Go.Proofs.Ytifdoneffnfogaa
open Go.RowKit
set_option linter.unusedSimpArgs false
set_option linter.unusedVariables false

set_option maxRecDepth 100000 in
theorem kDead_any (d r : Nat) (s : Dk) (w : World) (h : DK w d r s) : Calls Try.prog 44 #[.pointer (some ⟨d, 0, none⟩)] w fun e w' => e = .returned (.bool s.gone) ∧ w' = w := by
  have c3 := h.c3
  clear h
  go_enter Try.func44, Try.ntmps44
  go_wp2
  go_ret
  exact ⟨rfl, rfl⟩

end Go.Proofs.Ytifdoneffnfogaa

/- A disk of a law's own: Sync, Stop, Dead, Synced. -/
namespace Go.Proofs.Ytifdoneffnfogaa
open Go.RowKit
set_option linter.unusedSimpArgs false
set_option linter.unusedVariables false

section
variable {L : Nat} {w w1 w2 : World} {d r : Nat} {s s' : Dk}
theorem kSync_at (h : KD L w w1 d r s) (x : Int) (s' : Dk) (he : s.sync = (x, s')) :
    Calls Try.prog 39 #[.pointer (some ⟨d, 0, none⟩)] w1 fun e w' => e = .returned (.int .i64 x) ∧ KD L w w' d r s' ∧ Only w1 w' d r := by
  refine (kSync_any d r s w1 h.dk).mono ?_
  rintro e w' ⟨h1, h2, h3⟩
  rw [he] at h1 h2
  exact ⟨h1, h.only h2 h3, h3⟩
theorem kStop_at (h : KD L w w1 d r s) (n : Int) (hn : n ≤ 9223372036854775807) (s' : Dk) (he : s.stop n = s') :
    Calls Try.prog 19 #[.pointer (some ⟨d, 0, none⟩), .int .i64 n] w1 fun e w' => e = .returned (.tuple #[]) ∧ KD L w w' d r s' ∧ Only w1 w' d r := by
  refine (kStop_any d r s n hn w1 h.dk).mono ?_
  rintro e w' ⟨h1, h2, h3⟩
  rw [he] at h2
  exact ⟨h1, h.only h2 h3, h3⟩
end
end Go.Proofs.Ytifdoneffnfogaa

/- How a disk of the second say lies in memory. -/
namespace Go.Proofs.Ytifdoneffnfogaa
open Go.RowKit
set_option linter.unusedSimpArgs false
set_option linter.unusedVariables false

/-- The second say's disk s in the block x; its bytes lie in a later block, if in any. -/
structure RK (w : World) (x : Nat) (s : Dk) : Prop where
  mem : ∃ v, Blk w 59 x [v, .int .i64 s.kept, .int .i64 s.size, .int .i64 s.left, .bool s.gone] ∧ Has w 5 (x + 1) v s.b.length (B s.b)
  ok : s.Ok

section
variable {w w' : World} {x : Nat} {s : Dk}
theorem RK.lt (h : RK w x s) : x < w.heap.size := by obtain ⟨v, hv, _⟩ := h.mem; exact hv.lt
theorem RK.kept (h : RK w x s) (kp : ∀ k, x ≤ k → k < w.heap.size → w'.heap[k]? = w.heap[k]?) : RK w' x s := by
  obtain ⟨v, h1, h2⟩ := h.mem
  exact ⟨⟨v, h1.kept (kp x (Nat.le_refl _) h1.lt), h2.keptAt (fun k h3 h4 => kp k (by omega) h4)⟩, h.ok⟩
theorem RK.later (h : RK w x s) (hb : Below w.heap.size w w') : RK w' x s := h.kept fun k _ hk => hb.block k hk
theorem RK.only {d r : Nat} (h : RK w x s) (ho : Only w w' d r) (hd : d < x) (hr : r < x) : RK w' x s := h.kept fun k h1 hk => ho.block k hk (by omega) (by omega)
theorem RK.drew (h : RK w x s) : RK w.drew x s := h.kept fun _ _ _ => rfl
end
end Go.Proofs.Ytifdoneffnfogaa

/- Parts of a slice of bytes: what it reads as from a place on, up to a place. -/
namespace Go.Proofs.Ytifdoneffnfogaa
open Go.RowKit
set_option linter.unusedSimpArgs false
set_option linter.unusedVariables false

theorem Reads.dropped {w : World} {ao : Option Addr} {len cap : Nat} {b : List UInt8} (h : Reads w (.slice ao len cap) (B b)) (n : Nat) (hn : n ≤ b.length) : Reads w (.slice (ao.map fun x => x.add n) (len - n) (cap - n)) (B (b.drop n)) := by
  obtain ⟨ao', c, e, hc, hnone, hcell⟩ := h
  injection e with e1 e2 e3
  subst e1
  subst e2
  subst e3
  rw [B_length] at hc ⊢
  refine ⟨ao.map fun x => x.add n, cap - n, by rw [B_length, List.length_drop], by rw [B_length, List.length_drop]; omega, ?_, ?_⟩
  · intro h
    have : ao = none := by simpa using h
    have := hnone this
    omega
  · intro ad he j u hj
    cases ao with
    | none => simp at he
    | some x =>
      simp only [Option.map_some, Option.some.injEq] at he
      subst he
      rw [Addr.add_add]
      refine hcell x rfl (n + j) u ?_
      rw [B_get] at hj ⊢
      rw [List.getElem?_drop] at hj
      exact hj

/-- A part of what reads as bytes. -/
theorem Reads.seg {w : World} {ao : Option Addr} {bl cap : Nat} {m : List UInt8} (h : Reads w (.slice ao bl cap) (B m)) (p k : Nat) (hpk : p + k ≤ m.length) : Reads w (.slice (ao.map fun x => x.add p) k (cap - p)) (B ((m.drop p).take k)) := by
  have hd := h.dropped p (by omega)
  obtain ⟨ao', c, e, hc, hnone, hcell⟩ := hd
  injection e with e1 e2 e3
  subst e1
  subst e3
  have hkl : ((m.drop p).take k).length = k := by rw [List.length_take, List.length_drop]; omega
  rw [B_length, List.length_drop] at hc
  refine ⟨_, _, by rw [B_length, hkl], by rw [B_length, hkl]; omega, hnone, fun ad he j u hj => hcell ad he j u ?_⟩
  rw [B_get] at hj ⊢
  rw [List.getElem?_take] at hj
  split at hj
  · exact hj
  · simp at hj

theorem cut_low (bo : Option Addr) (M bc k : Nat) (m : List UInt8) (hM : m.length = M) (hk : k ≤ M) (hMc : M ≤ bc) (hc : bc ≤ maxLen) :
    ∃ p c, c ≤ maxLen ∧ (∀ wx, (Instr.slice 37 (.slice bo M bc) none (some (.int .i64 (k : Int))) none).run Try.prog wx = .ok (.slice p k c) wx) ∧ ∀ w', Reads w' (.slice bo M bc) (B m) → Reads w' (.slice p k c) (B (m.take k)) := by
  by_cases h0 : bc = 0
  · subst h0
    have hk0 : k = 0 := by omega
    have hM0 : M = 0 := by omega
    subst hk0
    subst hM0
    refine ⟨bo, 0, Nat.zero_le _, fun wx => ?_, fun w' _ => ⟨bo, 0, rfl, Nat.le_refl _, fun _ => rfl, fun _ _ _ _ hj => by simp [B] at hj⟩⟩
    go_simp
  · refine ⟨bo.map fun x => x.add 0, bc - 0, by omega, fun wx => ?_, fun w' hr => ?_⟩
    · have hkc : (k : Int) ≤ (bc : Int) := by omega
      go_simp
    · exact hr.seg 0 k (by omega)

theorem cut_up (bo : Option Addr) (M bc k : Nat) (m : List UInt8) (hM : m.length = M) (hk : k ≤ M) (hMc : M ≤ bc) (hc : bc ≤ maxLen) :
    ∃ p c, c ≤ maxLen ∧ (∀ wx, (Instr.slice 37 (.slice bo M bc) (some (.int .i64 (k : Int))) none none).run Try.prog wx = .ok (.slice p (M - k) c) wx) ∧ ∀ w', Reads w' (.slice bo M bc) (B m) → Reads w' (.slice p (M - k) c) (B (m.drop k)) := by
  by_cases h0 : bc = k
  · subst h0
    have hM0 : M = bc := by omega
    subst hM0
    refine ⟨bo, 0, Nat.zero_le _, fun wx => ?_, fun w' _ => ?_⟩
    · go_simp
    · rw [List.drop_of_length_le (by omega), Nat.sub_self]
      exact ⟨bo, 0, rfl, Nat.le_refl _, fun _ => rfl, fun _ _ _ _ hj => by simp [B] at hj⟩
  · refine ⟨bo.map fun x => x.add k, bc - k, by omega, fun wx => ?_, fun w' hr => ?_⟩
    · go_simp
    · exact hr.dropped k (by omega)
end Go.Proofs.Ytifdoneffnfogaa
