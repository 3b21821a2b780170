/- A disk of the program and one of the second say, side by side; the laws' own Same (chapter 10). -/
import Derived.Test.YtifdoneffnfogaaQ11b
import Derived.Test.YtifdoneffnfogaaQ11e
import Derived.Test.YtifdoneffnfogaaQ11c
import Derived.Test.YtifdoneffnfogaaXCrash
import Derived.BigQuiet
import Derived.Deep.DeepCutAuto
namespace Go.Proofs.Ytifdoneffnfogaa
open Go.RowKit
set_option linter.unusedSimpArgs false
set_option linter.unusedVariables false

/-- The same disk twice. -/
structure PD (L : Nat) (w w1 : World) (d r x : Nat) (s : Dk) : Prop where
  kd : KD L w w1 d r s
  rk : RK w1 x s
  dx : d < x
  rx : r < x
section
variable {L : Nat} {w w1 w2 w3 : World} {d r x : Nat} {s s' : Dk}
theorem PD.later (h : PD L w w1 d r x s) (hb : Below w1.heap.size w1 w2) : PD L w w2 d r x s := ⟨h.kd.later hb, h.rk.later hb, h.dx, h.rx⟩
theorem PD.stepX (h : PD L w w1 d r x s) (hK : KD L w w2 d r s') (hR : RK w3 x s') (hb : Below x w2 w3) : PD L w w3 d r x s' :=
  ⟨⟨hK.dk.kept (hb.block d h.dx) (hb.block r h.rx), hK.bel.trans (hb.mono (by have := h.kd.d; have := h.dx; omega)), Nat.le_trans hK.le hb.size, hK.d, hK.r⟩, hR, h.dx, h.rx⟩
end

set_option maxRecDepth 100000 in
set_option maxHeartbeats 4000000 in
theorem same10_any {L : Nat} {w0 w : World} {d r x : Nat} {s : Dk} (h : PD L w0 w d r x s) :
    Calls Try.prog 26 #[.pointer (some ⟨d, 0, none⟩), .pointer (some ⟨x, 0, none⟩)] w fun e w' => e = .returned (.bool true) ∧ PD L w0 w' d r x s ∧ Below w.heap.size w w' := by
  have HP := hid h
  obtain ⟨l, e, hle⟩ : ∃ l e, s.read = (l, e) := ⟨_, _, rfl⟩
  have HE := hid hle
  obtain ⟨n, hn⟩ : ∃ n, l.length = n := ⟨_, rfl⟩
  have HNL := hid hn
  clear h hle hn
  go_enter Try.func26, Try.ntmps26
  go_wp2_with fail
  refine (kRead_at HP.out.kd l e n HE.out HNL.out).mono ?_
  rintro _ w1 ⟨ao, cap, rfl, hH, _, hb⟩
  have HP1 := hid (HP.out.later hb)
  have HH1 := hid hH
  have Hb1 := hid hb
  clear hH hb
  go_wp2_with fail
  refine (xRead_any x s _ HP1.out.rk).mono ?_
  rintro _ w2 ⟨v, rfl, hH, hb⟩
  rw [HE.out] at hH ⊢
  simp only [HNL.out] at hH
  obtain ⟨ao2, cap2, rfl⟩ := hH.form
  have HP2 := hid (HP1.out.later hb)
  have Hb2 := hid (Hb1.out.trans (hb.mono Hb1.out.size))
  have s1 := strQ (HH1.out.reads.later hb)
  have s2 := strQ hH.reads
  obtain ⟨bo, bc, hv, _, _⟩ := HP2.out.rk.opened
  have c1 := hv.c1
  have c4 := hv.c4
  have HSY := hid (fun k => (kSynced_any d r s (w2.drewN k) (HP2.out.kd.dk.later (belowDrewN0 _ k))))
  have HDE := hid (fun k => (kDead_any d r s (w2.drewN k) (HP2.out.kd.dk.later (belowDrewN0 _ k))))
  generalize (⟨l.toArray⟩ : ByteArray) = X at *
  clear hH hb hv HP1 HH1 HP
  go_wp2_with fail
  go_quiet (first | refine Calls.quiet_of_same (HSY.out _) | refine Calls.quiet_of_same (HDE.out _))
  go_wp2_with fail
  go_ret
  exact ⟨rfl, HP2.out.later (belowDrewN0 w2 nq), belowDrewN0' Hb2.out nq⟩
end Go.Proofs.Ytifdoneffnfogaa
