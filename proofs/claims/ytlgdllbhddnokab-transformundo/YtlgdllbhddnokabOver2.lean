/- The contract of Over, over two operations. -/
import Derived.Test.YtlgdllbhddnokabCopied
import Derived.Test.YtlgdllbhddnokabObT
namespace Go.Proofs.Ytlgdllbhddnokab
open Go.RowKit
set_option linter.unusedSimpArgs false
set_option linter.unusedVariables false

set_option maxRecDepth 100000 in
set_option maxHeartbeats 2000000 in
theorem over2_ob {w : World} {v va vb : Value} {o a b X Y X2 Y2 : List Cp} {i u t k r r2 g : Nat} (h : Ob w v o i u) (ha : Ob w va a i k) (hb : Ob w vb b k t) (hP : PX a o X Y r) (hP2 : PX b (normS Y) X2 Y2 r2) (hr : r ≤ 400) (hr2 : r2 ≤ 400)
    (h0 : w.cell? ⟨g, 0, none⟩ = some va) (h1 : w.cell? ⟨g, 1, none⟩ = some vb) (hg : g < w.heap.size) :
    Calls Try.prog 13 #[v, .slice (some ⟨g, 0, none⟩) 2 2] w fun e w' => ∃ v', e = .returned (.tuple #[v', .int .i64 0]) ∧ Ob w' v' (normS Y2) t r2 ∧ Below w.heap.size w w' := by
  obtain ⟨ao, cap, rfl⟩ := h.rc.form
  obtain ⟨aa, ca, rfl⟩ := ha.rc.form
  obtain ⟨ab, cb, rfl⟩ := hb.rc.form
  have H := hid h
  have HA := hid ha
  have HB := hid hb
  have HP := hid hP
  have HP2 := hid hP2
  have C0 := hid h0
  have C1 := hid h1
  clear h ha hb hP hP2 h0 h1
  go_enter Try.func13, Try.ntmps13
  go_wp2_with fail
  refine (copied_any _ o _ H.out.rc H.out.fit).mono ?_
  rintro _ w1 ⟨v1, rfl, hH1, hb1⟩
  have HO := hid (show Ob w1 v1 o i u from ⟨hH1.reads, H.out.good, H.out.ins, H.out.outs, H.out.hi, H.out.hu⟩)
  have Hb1 := hid hb1
  clear hH1 hb1
  go_wp2_with fail
  go_loopw [6, 14] (fun ov iv wr => ((iv = .int .i64 0 ∧ Ob wr ov o i u) ∨ (iv = .int .i64 1 ∧ Ob wr ov (normS Y) k r) ∨ (iv = .int .i64 2 ∧ Ob wr ov (normS Y2) t r2)) ∧ Below w.heap.size w wr) (fun _ iv _ => 2 - (intOf iv).toNat)
  case atStart => exact ⟨.inl ⟨rfl, HO.out⟩, Hb1.out⟩
  case round =>
    clear HO Hb1
    obtain ⟨hcase, hbw⟩ := hrel
    have Hbw := hid hbw
    have c0 := cell_later hbw C0.out
    have c1 := cell_later hbw C1.out
    clear hbw
    rcases hcase with ⟨rfl, ho⟩ | ⟨rfl, ho⟩ | ⟨rfl, ho⟩
    · have HO := hid ho
      clear ho
      go_wp2_with fail
      refine (pair_ob (HA.out.later Hbw.out) HO.out HP.out hr).mono ?_
      rintro _ w2 ⟨vx, vy, rfl, hx, hy, hb⟩
      have HY := hid hy
      have Hb2 := hid (below_seq Hbw.out hb)
      clear hx hy hb c0 c1
      go_wp2_with fail
      go_roundw
      case rel => exact ⟨.inr (.inl ⟨by go_num, HY.out⟩), Hb2.out⟩
      case measure => simp [intOf]
    · have HO := hid ho
      clear ho
      go_wp2_with fail
      refine (pair_ob (HB.out.later Hbw.out) HO.out HP2.out hr2).mono ?_
      rintro _ w2 ⟨vx, vy, rfl, hx, hy, hb⟩
      have HY := hid hy
      have Hb2 := hid (below_seq Hbw.out hb)
      clear hx hy hb c0 c1
      go_wp2_with fail
      go_roundw
      case rel => exact ⟨.inr (.inr ⟨by go_num, HY.out⟩), Hb2.out⟩
      case measure => simp [intOf]
    · have HO := hid ho
      clear ho
      go_wp2_with fail
      go_ret2
      exact ⟨_, rfl, HO.out, Hbw.out⟩
end Go.Proofs.Ytlgdllbhddnokab
