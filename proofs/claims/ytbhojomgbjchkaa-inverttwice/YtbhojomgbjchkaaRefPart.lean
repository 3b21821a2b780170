/- The contracts of the second say's size and part. -/
import Derived.Test.YtbhojomgbjchkaaPartB
import Derived.Test.YtbhojomgbjchkaaCompS
import Derived.Test.YtbhojomgbjchkaaNorm
import Derived.Deep.RegionWith
namespace Go.Proofs.Ytbhojomgbjchkaa
open Go.RowKit
set_option linter.unusedSimpArgs false
set_option linter.unusedVariables false

theorem rsize_any (c : Cp) (h0 : 0 ≤ c.n) (h1 : c.n ≤ 1099511627776) (h2 : c.s.size ≤ 1099511627776) (w : World) :
    Calls Try.prog 27 #[.agg c.vals.toArray] w fun e w' => e = .returned (.int .i64 (c.sz : Int)) ∧ Below w.heap.size w w' := by
  have HE := hid (show ((c.sz : Nat) : Int) = c.n + (c.s.size : Int) by unfold Cp.sz; omega)
  obtain ⟨k, n, s⟩ := c
  simp only [Cp.vals] at *
  go_enter Try.func27, Try.ntmps27
  go_wp2
  go_ret
  exact ⟨by rw [HE.out]; rfl, (Below.refl _ _).alloc (Nat.le_refl _) _⟩

/-- Two results that lie in memory. -/
theorem ret_cell2 {P : Program} {w : World} {fn : Func} {R : Ending → World → Prop} {a : Act} (k k2 : Nat) (t : TypeId) (hf : fn.results = #[.cell k t, .cell k2 t]) (b b2 : Nat) (hp : a.tmps.getD k undef = .pointer (some ⟨b, 0, none⟩)) (hp2 : a.tmps.getD k2 undef = .pointer (some ⟨b2, 0, none⟩))
    (cs cs2 : List Value) (d : TypeDesc) (hc : w.rangeAt b 0 cs) (hc2 : w.rangeAt b2 0 cs2) (hu : P.underlying t = some d) (hdr : d.isRow = true) (hi : (P.info? t).map (·.size) = some cs.length) (hi2 : (P.info? t).map (·.size) = some cs2.length) (hd : a.defers = []) (hR : R (.returned (.tuple #[.agg cs.toArray, .agg cs2.toArray])) w) : bodyPost P fn R .ret a w := by
  refine bodyPost_ret (v := .tuple #[.agg cs.toArray, .agg cs2.toArray]) ?_ hd hR
  have h1 := run_loadVar_mid (P := P) w b 0 t cs d hc hu hdr hi
  have h2 := run_loadVar_mid (P := P) w b2 0 t cs2 d hc2 hu hdr hi2
  have hp' : a.tmps[k]?.getD undef = .pointer (some ⟨b, 0, none⟩) := by simpa using hp
  have hp2' : a.tmps[k2]?.getD undef = .pointer (some ⟨b2, 0, none⟩) := by simpa using hp2
  unfold results
  rw [hf]
  simp [hp', hp2', asAddr, h1, h2]

theorem boxes3 (w : World) (x : Obj) (y z : List Value) : (((w.alloc x).alloc (.cells y.toArray 42)).alloc (.cells z.toArray 42)).drew.rangeAt (w.heap.size + 1) 0 y ∧ (((w.alloc x).alloc (.cells y.toArray 42)).alloc (.cells z.toArray 42)).drew.rangeAt (w.heap.size + 1 + 1) 0 z := by
  have h1 := (Blk.new (w.alloc x) 42 y).alloc (.cells z.toArray 42)
  have h2 := Blk.new ((w.alloc x).alloc (.cells y.toArray 42)) 42 z
  rw [show (w.alloc x).heap.size = w.heap.size + 1 by simp] at h1
  rw [show ((w.alloc x).alloc (.cells y.toArray 42)).heap.size = w.heap.size + 1 + 1 by simp] at h2
  have h1' : Blk (((w.alloc x).alloc (.cells y.toArray 42)).alloc (.cells z.toArray 42)).drew 42 (w.heap.size + 1) y := h1
  have h2' : Blk (((w.alloc x).alloc (.cells y.toArray 42)).alloc (.cells z.toArray 42)).drew 42 (w.heap.size + 1 + 1) z := h2
  exact ⟨h1'.range (fun j v hv => by rw [Nat.zero_add]; exact hv), h2'.range (fun j v hv => by rw [Nat.zero_add]; exact hv)⟩

set_option maxHeartbeats 1000000 in
theorem part_any (c : Cp) (hc : c.Ok) (n : Nat) (h1 : 1 ≤ n) (h2 : n ≤ c.sz) (h3 : c.sz ≤ 1099511627776) (w : World) :
    Calls Try.prog 28 #[.agg c.vals.toArray, .int .i64 (n : Int)] w fun e w' => e = .returned (.tuple #[.agg (c.fr n).vals.toArray, .agg (c.rs n).vals.toArray]) ∧ Below w.heap.size w w' := by
  rcases ok_cases hc with ⟨m, hm, rfl⟩ | ⟨s, hs, rfl⟩ | ⟨m, hm, rfl⟩
  · rw [sz_K] at h2 h3
    rw [fr_K, rs_K n m h2]
    have HE := hid (show ((m - n : Nat) : Int) = (m : Int) - (n : Int) by omega)
    simp only [Cp.vals, pK]
    go_enter Try.func28, Try.ntmps28
    go_wp2_with fail
    go_region
    all_goals
      go_wp2_with fail
      refine ret_cell2 4 5 42 rfl (w.heap.size + 1) (w.heap.size + 1 + 1) rfl rfl ([.int .i64 1, .int .i64 (n : Int), .string ⟨#[]⟩]) ([.int .i64 1, .int .i64 ((m : Int) - (n : Int)), .string ⟨#[]⟩]) _ (boxes3 w _ _ _).1 (boxes3 w _ _ _).2 Try.underlying42 rfl (by kernel_rfl) (by kernel_rfl) rfl ⟨by rw [HE.out]; rfl, (below3 w _ _ _).drew⟩
  · rw [sz_P] at h2 h3
    rw [fr_P, rs_P]
    have g1 : (n : Int) ≤ (s.size : Int) := by omega
    simp only [Cp.vals, pP]
    go_enter Try.func28, Try.ntmps28
    go_wp2_with fail
    go_region
    all_goals
      go_wp2_with fail
      refine ret_cell2 4 5 42 rfl (w.heap.size + 1) (w.heap.size + 1 + 1) rfl rfl ([.int .i64 2, .int .i64 0, .string (s.extract 0 n)]) ([.int .i64 2, .int .i64 0, .string (s.extract n s.size)]) _ (boxes3 w _ _ _).1 (boxes3 w _ _ _).2 Try.underlying42 rfl (by kernel_rfl) (by kernel_rfl) rfl ⟨rfl, (below3 w _ _ _).drew⟩
  · rw [sz_X] at h2 h3
    rw [fr_X, rs_X n m h2]
    have HE := hid (show ((m - n : Nat) : Int) = (m : Int) - (n : Int) by omega)
    simp only [Cp.vals, pX]
    go_enter Try.func28, Try.ntmps28
    go_wp2_with fail
    go_region
    all_goals
      go_wp2_with fail
      refine ret_cell2 4 5 42 rfl (w.heap.size + 1) (w.heap.size + 1 + 1) rfl rfl ([.int .i64 3, .int .i64 (n : Int), .string ⟨#[]⟩]) ([.int .i64 3, .int .i64 ((m : Int) - (n : Int)), .string ⟨#[]⟩]) _ (boxes3 w _ _ _).1 (boxes3 w _ _ _).2 Try.underlying42 rfl (by kernel_rfl) (by kernel_rfl) rfl ⟨by rw [HE.out]; rfl, (below3 w _ _ _).drew⟩
end Go.Proofs.Ytbhojomgbjchkaa
