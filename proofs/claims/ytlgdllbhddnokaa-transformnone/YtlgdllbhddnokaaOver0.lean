/- The contracts of Over, over nothing, and of the second say's All of nothing. -/
import Derived.Test.YtlgdllbhddnokaaCopied
import Derived.Test.YtlgdllbhddnokaaOb
namespace Go.Proofs.Ytlgdllbhddnokaa
open Go.RowKit
set_option linter.unusedSimpArgs false
set_option linter.unusedVariables false

set_option maxRecDepth 100000 in
set_option maxHeartbeats 1000000 in
theorem over0_ob {w : World} {v : Value} {o : List Cp} {i u : Nat} (h : Ob w v o i u) :
    Calls Try.prog 20 #[v, .slice none 0 0] w fun e w' => ∃ v', e = .returned (.tuple #[v', .int .i64 0]) ∧ Ob w' v' o i u ∧ Below w.heap.size w w' := by
  obtain ⟨ao, cap, rfl⟩ := h.rc.form
  have H := hid h
  clear h
  go_enter Try.func20, Try.ntmps20
  go_wp2_with fail
  refine (copied_any _ o _ H.out.rc H.out.fit).mono ?_
  rintro _ w1 ⟨v1, rfl, hH1, hb1⟩
  have HO := hid (show Ob w1 v1 o i u from ⟨hH1.reads, H.out.good, H.out.ins, H.out.outs, H.out.hi, H.out.hu⟩)
  have Hb1 := hid hb1
  clear hH1 hb1
  go_wp2_with fail
  go_loopw [6, 14] (fun ov iv wr => ov = v1 ∧ iv = .int .i64 0 ∧ wr = w1) (fun _ _ _ => 0)
  case atStart => exact ⟨rfl, rfl, rfl⟩
  case round =>
    obtain ⟨rfl, rfl, hwr⟩ := hrel
    subst wr
    go_wp2_with fail
    go_ret2
    exact ⟨_, rfl, HO.out, Hb1.out⟩

set_option maxRecDepth 100000 in
set_option maxHeartbeats 1000000 in
theorem all0_ob (n : Nat) (hn : n ≤ 400) (w : World) :
    Calls Try.prog 19 #[.int .i64 (n : Int), .slice none 0 0] w fun e w' => ∃ v', e = .returned (.tuple #[v', .int .i64 0]) ∧ Ob w' v' (idS n) n n ∧ Below w.heap.size w w' := by
  by_cases h0 : n = 0
  · subst h0
    go_enter Try.func19, Try.ntmps19
    go_wp2_with fail
    go_loopw [6, 7] (fun ov iv wr => ov = .slice none 0 0 ∧ iv = .int .i64 0 ∧ wr = w) (fun _ _ _ => 0)
    case atStart => exact ⟨rfl, rfl, rfl⟩
    case round =>
      obtain ⟨rfl, rfl, hwr⟩ := hrel
      subst wr
      go_wp2_with fail
      go_ret2
      exact ⟨_, rfl, ⟨RC.nil _, id_good 0, rfl, rfl, by omega, by omega⟩, Below.refl _ _⟩
  · have hpos : (0 : Int) < (n : Int) := by omega
    have ho : Ob (w.alloc (.cells (C [pK (n : Int)]).toArray 43)) (.slice (some ⟨w.heap.size, 0, none⟩) 1 1) (idS n) n n := by
      have e : idS n = [pK (n : Int)] := if_neg h0
      refine ⟨?_, id_good n, id_in n, id_out n, hn, hn⟩
      rw [e]
      exact (parts_new w [pK (n : Int)] 1 rfl).reads
    have HO := hid ho
    have Hb1 := hid (show Below w.heap.size w (w.alloc (.cells (C [pK (n : Int)]).toArray 43)) from (Below.refl _ _).alloc (Nat.le_refl _) _)
    clear ho h0
    go_enter Try.func19, Try.ntmps19
    go_wp2_with fail
    go_loopw [6, 7] (fun ov iv wr => ov = .slice (some ⟨w.heap.size, 0, none⟩) 1 1 ∧ iv = .int .i64 0 ∧ wr = w.alloc (.cells (C [pK (n : Int)]).toArray 43)) (fun _ _ _ => 0)
    case atStart => exact ⟨rfl, rfl, rfl⟩
    case round =>
      obtain ⟨rfl, rfl, hwr⟩ := hrel
      subst wr
      go_wp2_with fail
      go_ret2
      exact ⟨_, rfl, HO.out, Hb1.out⟩
end Go.Proofs.Ytlgdllbhddnokaa
