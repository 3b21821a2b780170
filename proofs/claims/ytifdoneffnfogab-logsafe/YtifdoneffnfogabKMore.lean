/- The contracts of package disk's Sync, Stop. -/
import Derived.Test.YtifdoneffnfogabKOps
namespace Go.Proofs.Ytifdoneffnfogab
open Go.RowKit
set_option linter.unusedSimpArgs false
set_option linter.unusedVariables false

set_option maxRecDepth 100000 in
theorem kStop_any (d r : Nat) (s : Dk) (n : Int) (hn : n ≤ 9223372036854775807) (w : World) (h : DK w d r s) :
    Calls Try.prog 10 #[.pointer (some ⟨d, 0, none⟩), .int .i64 n] w fun e w' => e = .returned (.tuple #[]) ∧ DK w' d r (s.stop n) ∧ Only w w' d r := by
  have c2 := h.c2
  have f2 := h.blk.frozen 2
  have HX := hid (show DK (w.setCell ⟨d, 2, none⟩ (.int .i64 (max n 0))) d r (s.stop n) ∧ Only w (w.setCell ⟨d, 2, none⟩ (.int .i64 (max n 0))) d r by
    have e : max n 0 = (((max n 0).toNat : Nat) : Int) := by omega
    rw [e]
    exact ⟨h.setLeft (max n 0).toNat (by omega), Only.set _ _ _ _ _⟩)
  clear h
  go_enter Try.func10, Try.ntmps10
  go_wp2
  · have HX' := HX.out
    rw [show max n 0 = 0 by omega] at HX'
    go_end0
    exact ⟨rfl, HX'⟩
  · have HX' := HX.out
    rw [show max n 0 = n by omega] at HX'
    go_end0
    exact ⟨rfl, HX'⟩

set_option maxRecDepth 100000 in
theorem kSync_any (d r : Nat) (s : Dk) (w : World) (h : DK w d r s) :
    Calls Try.prog 17 #[.pointer (some ⟨d, 0, none⟩)] w fun e w' => e = .returned (.int .i64 s.sync.1) ∧ DK w' d r s.sync.2 ∧ Only w w' d r := by
  have HK := hid h
  have c1 := h.c1
  have hk1 := h.ok.kept
  have hk2 := h.ok.len
  have hk3 := h.ok.size
  clear h
  go_enter Try.func17, Try.ntmps17
  go_wp2_with fail
  refine (kend_any s.kept (s.b.length - s.kept) (by omega) _).mono ?_
  rintro _ w1 ⟨rfl, rfl⟩
  rw [show s.kept + (s.b.length - s.kept) = s.b.length by omega]
  go_wp2_with fail
  refine (kCut_any d r s s.b.length _ HK.out).mono ?_
  rintro _ w2 ⟨rfl, hD, ho⟩
  have HX := hid (And.intro hD ho)
  clear hD ho
  go_wp2_with fail
  go_ret
  exact ⟨rfl, HX.out⟩

end Go.Proofs.Ytifdoneffnfogab
