/- A disk of the program and one of the second say, side by side; the laws' own Few and Same (chapter 10). -/
import Derived.Test.YtekcoeckgolhcaaDBits
import Derived.Test.YtekcoeckgolhcaaOpenA
import Derived.Test.YtekcoeckgolhcaaWithin10
import Derived.Test.YtekcoeckgolhcaaKAt2
import Derived.Test.YtekcoeckgolhcaaXCrash
import Derived.BigQuiet
import Derived.Deep.DeepCutAuto
namespace Go.Proofs.Ytekcoeckgolhcaa
open Go.RowKit
set_option linter.unusedSimpArgs false
set_option linter.unusedVariables false

/-- The same disk twice. -/
structure PD (L : Nat) (w w1 : World) (d r x : Nat) (s : Dk) : Prop where
  kd : KD L w w1 d r s
  rk : RK w1 x s
  dx : d < x
  rx : r < x
section
variable {L : Nat} {w w1 w2 w3 : World} {d r x : Nat} {s s' : Dk}
theorem PD.later (h : PD L w w1 d r x s) (hb : Below w1.heap.size w1 w2) : PD L w w2 d r x s := ⟨h.kd.later hb, h.rk.later hb, h.dx, h.rx⟩
theorem PD.stepX (h : PD L w w1 d r x s) (hK : KD L w w2 d r s') (hR : RK w3 x s') (hb : Below x w2 w3) : PD L w w3 d r x s' :=
  ⟨⟨hK.dk.kept (hb.block d h.dx) (hb.block r h.rx), hK.bel.trans (hb.mono (by have := h.kd.d; have := h.dx; omega)), Nat.le_trans hK.le hb.size, hK.d, hK.r⟩, hR, h.dx, h.rx⟩
end

/-- What Few answers. -/
def FewR (w : World) (ao : Option Addr) (len : Nat) (e : Ending) (w' : World) : Prop := ∃ b, e = .returned (.bool b) ∧ w' = w ∧ (b = true → len ≤ 60 ∧ ∀ j, j < len → ∀ kb off so sl sc, ao = some ⟨kb, off, none⟩ → w.cell? ⟨kb, off + j * 3 + 2, none⟩ = some (.slice so sl sc) → sl ≤ 60)
set_option maxRecDepth 100000 in
set_option maxHeartbeats 2000000 in
theorem few10_any (ao : Option Addr) (len cap : Nat) (w : World) (h : InActs w ao len cap) :
    Calls Try.prog 10 #[.slice ao len cap] w (FewR w ao len) := by
  have HN := hid h
  have hle := h.le
  have hc := h.cap
  have hn2 : len ≤ 9223372036854775807 := by unfold maxLen at hc; omega
  clear h hc
  go_enter Try.func10, Try.ntmps10
  go_wp2_with fail
  go_loopw [3] (fun i wr => ∃ j : Nat, j ≤ len ∧ i = .int .i64 j ∧ wr = w ∧ ∀ j', j' < j → ∀ kb off so sl sc, ao = some ⟨kb, off, none⟩ → w.cell? ⟨kb, off + j' * 3 + 2, none⟩ = some (.slice so sl sc) → sl ≤ 60) (fun i _ => len - (intOf i).toNat)
  case atStart => exact ⟨0, Nat.zero_le _, rfl, rfl, fun j' h => absurd h (Nat.not_lt_zero j')⟩
  case round =>
    obtain ⟨j, hj, rfl, hw, hall⟩ := hrel
    subst hw
    have HA := hid hall
    clear hall
    by_cases hlt : j < len
    · have hlt' : (j : Int) < (len : Int) := by omega
      obtain ⟨kb, off, k, m, so, sl, sc, l, rfl, hr, h3, h4, h5, h6, h7⟩ := HN.out.at_ j hlt
      have hc := hr 2 _ rfl
      have HC := hid hc
      clear hr h3 h6 h7
      by_cases h60 : (60 : Int) < (sl : Int)
      · go_wp2_with fail
        go_ret
        exact ⟨false, rfl, rfl, fun h => by cases h⟩
      go_wp2_with fail
      go_roundw
      case rel =>
        refine ⟨j + 1, by omega, by go_num, trivial, fun j' hj' kb' off' so' sl' sc' he hc' => ?_⟩
        by_cases hjj : j' < j
        · exact HA.out j' hjj kb' off' so' sl' sc' he hc'
        · have : j' = j := by omega
          subst this
          injection he with he
          injection he with e1 e2
          subst e1 e2
          rw [HC.out] at hc'
          injection hc' with hc'
          injection hc' with _ e3 _
          omega
      case measure => simp [intOf]; omega
    · have hj2 : j = len := by omega
      subst hj2
      by_cases h60 : (60 : Int) < (j : Int)
      · go_wp2_with fail
        go_ret
        exact ⟨_, rfl, rfl, fun h => by simp at h; omega⟩
      go_wp2_with fail
      go_ret
      exact ⟨_, rfl, rfl, fun _ => ⟨by omega, HA.out⟩⟩

set_option maxRecDepth 100000 in
set_option maxHeartbeats 4000000 in
theorem same10_any {L : Nat} {w0 w : World} {d r x : Nat} {s : Dk} (h : PD L w0 w d r x s) :
    Calls Try.prog 15 #[.pointer (some ⟨d, 0, none⟩), .pointer (some ⟨x, 0, none⟩)] w fun e w' => e = .returned (.bool true) ∧ PD L w0 w' d r x s := by
  have HP := hid h
  obtain ⟨l, e, hle⟩ : ∃ l e, s.read = (l, e) := ⟨_, _, rfl⟩
  have HE := hid hle
  obtain ⟨n, hn⟩ : ∃ n, l.length = n := ⟨_, rfl⟩
  have HNL := hid hn
  clear h hle hn
  go_enter Try.func15, Try.ntmps15
  go_wp2_with fail
  refine (kRead_at HP.out.kd l e n HE.out HNL.out).mono ?_
  rintro _ w1 ⟨ao, cap, rfl, hH, _, hb⟩
  have HP1 := hid (HP.out.later hb)
  have HH1 := hid hH
  clear hH hb
  go_wp2_with fail
  refine (xRead_any x s _ HP1.out.rk).mono ?_
  rintro _ w2 ⟨v, rfl, hH, hb⟩
  rw [HE.out] at hH ⊢
  simp only [HNL.out] at hH
  obtain ⟨ao2, cap2, rfl⟩ := hH.form
  have HP2 := hid (HP1.out.later hb)
  have s1 := strQ (HH1.out.reads.later hb)
  have s2 := strQ hH.reads
  obtain ⟨bo, bc, hv, _, _⟩ := HP2.out.rk.opened
  have c1 := hv.c1
  have c4 := hv.c4
  have HSY := hid (fun k => (kSynced_any d r s (w2.drewN k) (HP2.out.kd.dk.later (belowDrewN0 _ k))))
  have HDE := hid (fun k => (kDead_any d r s (w2.drewN k) (HP2.out.kd.dk.later (belowDrewN0 _ k))))
  generalize (⟨l.toArray⟩ : ByteArray) = X at *
  clear hH hb hv HP1 HH1 HP
  go_wp2_with fail
  go_quiet (first | refine Calls.quiet_of_same (HSY.out _) | refine Calls.quiet_of_same (HDE.out _))
  go_wp2_with fail
  go_ret
  exact ⟨rfl, HP2.out.later (belowDrewN0 w2 nq)⟩
end Go.Proofs.Ytekcoeckgolhcaa
