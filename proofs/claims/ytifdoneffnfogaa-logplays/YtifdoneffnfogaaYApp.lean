/- The contracts of the second say's log: Append, Sync (chapter 11). -/
import Derived.Test.YtifdoneffnfogaaYOps
namespace Go.Proofs.Ytifdoneffnfogaa
open Go.RowKit
set_option linter.unusedSimpArgs false
set_option linter.unusedVariables false

/-- Of the blocks that were there, a disk's own, its bytes' and a log's have changed. -/
structure YStep (w w' : World) (x q : Nat) (v v' : Value) : Prop where
  os : w'.os = w.os
  tape : w'.tape = w.tape
  output : w'.output = w.output
  size : w.heap.size ≤ w'.heap.size
  block : ∀ k, k < w.heap.size → k ≠ x → k ≠ q → ¬ Bk v k → w'.heap[k]? = w.heap[k]?
  fresh : ∀ k, Bk v' k → Bk v k ∨ w.heap.size ≤ k
section
variable {w w1 w' : World} {x q : Nat} {v v1 v' : Value}
theorem YStep.of (h : XStep w w' x v v') (q : Nat) : YStep w w' x q v v' := ⟨h.os, h.tape, h.output, h.size, fun k h1 h2 _ h3 => h.block k h1 h2 h3, h.fresh⟩
theorem YStep.of_below (h : Below w.heap.size w w') (x q : Nat) (v : Value) : YStep w w' x q v v := YStep.of (XStep.of_below h x v) q
theorem YStep.trans (a : YStep w w1 x q v v1) (b : YStep w1 w' x q v1 v') : YStep w w' x q v v' :=
  ⟨b.os.trans a.os, b.tape.trans a.tape, b.output.trans a.output, Nat.le_trans a.size b.size,
   fun k h1 h2 h2' h3 => by
    rw [b.block k (Nat.lt_of_lt_of_le h1 a.size) h2 h2' (fun h4 => (a.fresh k h4).elim h3 (fun h5 => by omega)), a.block k h1 h2 h2' h3],
   fun k h => (b.fresh k h).elim (a.fresh k) (fun h5 => .inr (Nat.le_trans a.size h5))⟩
theorem YStep.set (w : World) (x q j : Nat) (u v : Value) : YStep w (w.setCell ⟨q, j, none⟩ u) x q v v := ⟨rfl, rfl, rfl, by simp [World.setCell], fun k _ _ h _ => heap_setCell_other _ _ _ _ h, fun _ h => .inl h⟩
theorem Blk.drew {t : TypeId} {g : Nat} {cs : List Value} (h : Blk w t g cs) : Blk w.drew t g cs := h
end
/-- A cell of another block is put down. -/
theorem RKv.besides {w : World} {x q : Nat} {s : Dk} {v : Value} (h : RKv w x s v) (hq : q ≠ x) (hb : ¬ Bk v q) (j : Nat) (u : Value) : RKv (w.setCell ⟨q, j, none⟩ u) x s v := by
  refine ⟨h.blk.kept (heap_setCell_other _ _ _ _ (Ne.symm hq)), ?_⟩
  rcases h.has with h1 | ⟨g, c, e, h1, h2⟩
  · exact .inl h1
  · exact .inr ⟨g, c, e, h1, h2.kept (heap_setCell_other _ _ _ _ (fun h3 => hb ⟨_, c, by rw [e]; simp only at h3; rw [h3]⟩))⟩
/-- What a log's call answers: the error; how many records, how many safe, the disk behind it. -/
def YR (w : World) (x q : Nat) (v : Value) (c : Int) (n k : Nat) (s : Dk) (e : Ending) (w' : World) : Prop := ∃ v', e = .returned (.int .i64 c) ∧ RKv w' x s v' ∧ YL w' q x n k ∧ YStep w w' x q v v'

set_option maxRecDepth 100000 in
set_option maxHeartbeats 4000000 in
theorem yAppend_any (x q : Nat) (s : Dk) (n k : Nat) (hn : n ≤ 1000000000) (ao : Option Addr) (cap : Nat) (u : Value) (l : List UInt8) (w : World) (hv : RKv w x s (.slice ao s.b.length cap)) (hok : s.Ok) (hq : YL w q x n k) (hqx : q ≠ x ∧ ¬ Bk (.slice ao s.b.length cap) q) (hu : Reads w u (B l)) (hll : l.length ≤ 1000000000) :
    Calls Try.prog 16 #[.pointer (some ⟨q, 0, none⟩), u] w (YR w x q (.slice ao s.b.length cap) (appL s n l).1 (appL s n l).2.1 k (appL s n l).2.2) := by
  obtain ⟨i0, hi, hz0, hz1, hz2⟩ := info_parts Try.infoByte
  have HV := hid hv
  have HOK := hid hok
  have HQ := hid (show Blk w 45 q [.pointer (some ⟨x, 0, none⟩), .int .i64 n, .int .i64 k] from hq)
  have HQX := hid hqx
  have HQL := hid (show q < w.heap.size from HQ.out.lt)
  obtain ⟨m, hm⟩ : ∃ m, l.length = m := ⟨_, rfl⟩
  have HLM := hid hm
  obtain ⟨uo, ucap, rfl, hcap, _, _⟩ := id hu
  rw [B_length] at hcap hu ⊢
  rw [hm] at hcap hu hll ⊢
  have HU := hid hu
  have c0 : w.cell? ⟨q, 0, none⟩ = some (.pointer (some ⟨x, 0, none⟩)) := HQ.out.cell rfl
  clear hv hok hq hqx hm hu
  by_cases h1 : 16384 < m
  · have h1' : (16384 : Int) < (m : Int) := by omega
    have HE := hid (show appL s n l = (5, n, s) by rw [appL, HLM.out, if_pos h1])
    go_enter Try.func16, Try.ntmps16
    go_wp2_with fail
    go_ret
    exact ⟨_, by rw [HE.out]; rfl, by rw [HE.out]; exact HV.out, by rw [HE.out]; exact HQ.out, YStep.of (XStep.refl _ _ _) q⟩
  have h1' : ¬ (16384 : Int) < (m : Int) := by omega
  obtain ⟨c, hc⟩ : ∃ c, (s.app (enc l)).1 = c := ⟨_, rfl⟩
  have HE := hid (show appL s n l = (c, if c = 0 then n + 1 else n, (s.app (enc l)).2) by rw [appL, HLM.out, if_neg h1, hc])
  have HC := hid hc
  clear hc h1
  go_enter Try.func16, Try.ntmps16
  go_upto_region 3 with fail
  refine wp_region_held_drew (S := fun w' => w'.cell? ⟨q, 0, none⟩ = some (.pointer (some ⟨x, 0, none⟩))) (by kernel_rfl) (HQ.out.drew.cell rfl) (fun hHeld => ?_)
  have HVd := hid HV.out.drew
  have HQd := hid HQ.out.drew
  have HRd := hid (show Reads w.drew (.slice uo m ucap) (B l) from HU.out.later ((Below.refl _ _).drew))
  have Hbd := hid (show YStep w w.drew x q (.slice ao s.b.length cap) (.slice ao s.b.length cap) from YStep.of_below ((Below.refl _ _).drew) _ _ _)
  clear HV HQ HU c0
  generalize w.drew = wd at *
  refine wpAnyH_take (i := 0) (v := .pointer (some ⟨q, 0, none⟩)) rfl (by kernel_rfl) (by kernel_rfl) (by kernel_rfl) (fun _ _ _ h => h) (Or.inl ⟨by rfl, by intro w hSw; go_simp⟩) hHeld ?_
  try simp only [Act.put, List.setIfInBounds_toArray, List.set_cons_zero, List.set_cons_succ, List.getElem_toArray, List.getElem_cons_zero, List.getElem_cons_succ]
  refine wpAnyH_take (i := 1) (v := .pointer (some ⟨q, 0, none⟩)) rfl (by kernel_rfl) (by kernel_rfl) (by kernel_rfl) (fun _ _ _ h => h) (Or.inl ⟨by rfl, by intro w hSw; go_simp⟩) hHeld ?_
  try simp only [Act.put, List.setIfInBounds_toArray, List.set_cons_zero, List.set_cons_succ, List.getElem_toArray, List.getElem_cons_zero, List.getElem_cons_succ]
  refine wpAnyH_take (i := 2) (v := .pointer (some ⟨q, 0, none⟩)) rfl (by kernel_rfl) (by kernel_rfl) (by kernel_rfl) (fun _ _ _ h => h) (Or.inl ⟨by rfl, by intro w hSw; go_simp⟩) hHeld ?_
  try simp only [Act.put, List.setIfInBounds_toArray, List.set_cons_zero, List.set_cons_succ, List.getElem_toArray, List.getElem_cons_zero, List.getElem_cons_succ]
  refine wpAnyH_take (i := 3) (v := .pointer (some ⟨x, 0, none⟩)) rfl (by kernel_rfl) (by kernel_rfl) (by kernel_rfl) (fun _ _ _ h => h) (Or.inl ⟨by rfl, by intro w hSw; have q0 := hSw; go_simp⟩) hHeld ?_
  try simp only [Act.put, List.setIfInBounds_toArray, List.set_cons_zero, List.set_cons_succ, List.getElem_toArray, List.getElem_cons_zero, List.getElem_cons_succ]
  refine wpAnyH_take (i := 4) (v := .slice uo m ucap) rfl (by kernel_rfl) (by kernel_rfl) (by kernel_rfl) (fun _ _ _ h => h) (Or.inl ⟨by rfl, by intro w hSw; go_simp⟩) hHeld ?_
  try simp only [Act.put, List.setIfInBounds_toArray, List.set_cons_zero, List.set_cons_succ, List.getElem_toArray, List.getElem_cons_zero, List.getElem_cons_succ]
  refine wpAnyH_take (i := 5) (v := .int .i64 (m : Int)) rfl (by kernel_rfl) (by kernel_rfl) (by kernel_rfl) (fun _ _ _ h => h) (Or.inl ⟨by rfl, by intro w hSw; go_simp⟩) hHeld ?_
  try simp only [Act.put, List.setIfInBounds_toArray, List.set_cons_zero, List.set_cons_succ, List.getElem_toArray, List.getElem_cons_zero, List.getElem_cons_succ]
  refine wpAnyH_take (i := 7) (v := .slice uo m ucap) rfl (by kernel_rfl) (by kernel_rfl) (by kernel_rfl) (fun _ _ _ h => h) (Or.inl ⟨by rfl, by intro w hSw; go_simp⟩) hHeld ?_
  try simp only [Act.put, List.setIfInBounds_toArray, List.set_cons_zero, List.set_cons_succ, List.getElem_toArray, List.getElem_cons_zero, List.getElem_cons_succ]
  refine wpAnyH_ready (rs := [6]) (by kernel_rfl) (by simp) ?_
  refine AllReadyH.cons rfl (fun K hK => ?_) (AllReadyH.nil)
  go_simp
  refine (fInt_has wd.heap.size (.slice none 0 0) 0 [] (m : Int) wd (Has.nil _ _ _) (Nat.le_refl _) (by omega)).mono ?_
  rintro _ w3 ⟨v3, rfl, hH3, hb3⟩
  rw [List.nil_append, Nat.zero_add] at hH3
  have HH3 := hid hH3
  have Hb3 := hid hb3
  clear hH3 hb3
  refine hK.out _ _ (cell_later Hb3.out hHeld) (fun hHeld => ?_)
  clear hK K
  try simp only [Act.put, List.setIfInBounds_toArray, List.set_cons_zero, List.set_cons_succ, List.getElem_toArray, List.getElem_cons_zero, List.getElem_cons_succ]
  refine wpAnyH_ready (rs := [8]) (by kernel_rfl) (by simp) ?_
  refine AllReadyH.cons rfl (fun K hK => ?_) (AllReadyH.nil)
  refine Eq.mpr (if_pos (by rfl)) ?_
  refine wp_append_any _ _ _ 37 37 rfl 5 i0 (.int .u8 0) Try.underlying37 hi hz0 hz1 hz2 rfl wd.heap.size _ 8 (B (i8 m)) rfl HH3.out Hb3.out.size _ m (B l) rfl (Src.ofBytes _ Try.underlying37 HLM.out (HRd.out.later Hb3.out)) (by omega) ?_
  intro v4 w4 hH4 hb4
  have Hb4 := hid (Hb3.out.trans hb4)
  have HRE := hid (show Reads w4 v4 (B (enc l)) by rw [enc, HLM.out, B_append]; exact hH4.reads)
  have HV4 := hid (HVd.out.later Hb4.out)
  have HQ4 := hid (HQd.out.later Hb4.out)
  clear hH4 hb4 HH3 Hb3 hHeld
  refine hK.out _ _ (HQ4.out.cell rfl) (fun hHeld => ?_)
  clear hK K
  try simp only [Act.put, List.setIfInBounds_toArray, List.set_cons_zero, List.set_cons_succ, List.getElem_toArray, List.getElem_cons_zero, List.getElem_cons_succ]
  refine wpAnyH_ready (rs := [9]) (by kernel_rfl) (by simp) ?_
  refine AllReadyH.cons rfl (fun K hK => ?_) (AllReadyH.nil)
  go_simp
  refine (xAppend_v x s ao cap v4 (enc l) _ HV4.out HOK.out HRE.out (by rw [enc_len, HLM.out]; omega)).mono ?_
  rintro _ w5 ⟨v5, rfl, hV5, hS5⟩
  have HV5 := hid hV5
  have HQ5 := hid (HQ4.out.kept (hS5.block q HQ4.out.lt HQX.out.1 HQX.out.2))
  have HS5 := hid (Hbd.out.trans ((YStep.of_below Hb4.out x q (.slice ao s.b.length cap)).trans (YStep.of hS5 q)))
  clear hV5 hS5 HV4 HRE
  refine hK.out _ _ (HQ5.out.cell rfl) (fun hHeld => ?_)
  clear hK K
  try simp only [Act.put, List.setIfInBounds_toArray, List.set_cons_zero, List.set_cons_succ, List.getElem_toArray, List.getElem_cons_zero, List.getElem_cons_succ]
  refine wpAnyH_ready (rs := [10]) (by kernel_rfl) (by simp) ?_
  refine AllReadyH.cons rfl (fun K hK => ?_) (AllReadyH.nil)
  go_simp
  refine hK.out _ _ (hHeld) (fun hHeld => ?_)
  clear hK K
  try simp only [Act.put, List.setIfInBounds_toArray, List.set_cons_zero, List.set_cons_succ, List.getElem_toArray, List.getElem_cons_zero, List.getElem_cons_succ]
  refine wpAnyH_done (by kernel_rfl) ?_ _
  clear hHeld HQ4 Hb4 HVd HQd HRd Hbd
  rw [HC.out]
  by_cases hc0 : c = 0
  · subst hc0
    rw [if_pos rfl] at HE
    have c1 : w5.cell? ⟨q, 1, none⟩ = some (.int .i64 n) := HQ5.out.cell rfl
    have f1 := HQ5.out.frozen 1
    have HX := hid (show RKv (w5.setCell ⟨q, 1, none⟩ (.int .i64 ((n : Int) + 1))) x (s.app (enc l)).2 v5 ∧ YL (w5.setCell ⟨q, 1, none⟩ (.int .i64 ((n : Int) + 1))) q x (n + 1) k ∧ YStep w (w5.setCell ⟨q, 1, none⟩ (.int .i64 ((n : Int) + 1))) x q (.slice ao s.b.length cap) v5 from
      ⟨HV5.out.besides HQX.out.1 (fun h => (HS5.out.fresh q h).elim HQX.out.2 (fun h5 => by have := HQL.out; omega)) 1 _, HQ5.out.setCell 1 _, HS5.out.trans (YStep.set _ _ _ _ _ _)⟩)
    clear HV5 HQ5 HS5
    go_wp2_with fail
    go_ret
    exact ⟨v5, by rw [HE.out]; rfl, by rw [HE.out]; exact HX.out.1, by rw [HE.out]; exact HX.out.2.1, HX.out.2.2⟩
  · rw [if_neg hc0] at HE
    have hcb : (c == 0) = false := by simpa using hc0
    go_wp2_with fail
    go_ret
    exact ⟨v5, by rw [HE.out]; rfl, by rw [HE.out]; exact HV5.out, by rw [HE.out]; exact HQ5.out, HS5.out⟩

set_option maxRecDepth 100000 in
set_option maxHeartbeats 4000000 in
theorem ySync_any (x q : Nat) (s : Dk) (n k : Nat) (ao : Option Addr) (cap : Nat) (w : World) (hv : RKv w x s (.slice ao s.b.length cap)) (hok : s.Ok) (hq : YL w q x n k) (hqx : q ≠ x ∧ ¬ Bk (.slice ao s.b.length cap) q) :
    Calls Try.prog 18 #[.pointer (some ⟨q, 0, none⟩)] w (YR w x q (.slice ao s.b.length cap) (syncL s n k).1 n (syncL s n k).2.1 (syncL s n k).2.2) := by
  have HV := hid hv
  have HOK := hid hok
  have HQ := hid (show Blk w 45 q [.pointer (some ⟨x, 0, none⟩), .int .i64 n, .int .i64 k] from hq)
  have HQX := hid hqx
  have HQL := hid (show q < w.heap.size from HQ.out.lt)
  have c0 : w.cell? ⟨q, 0, none⟩ = some (.pointer (some ⟨x, 0, none⟩)) := HQ.out.cell rfl
  obtain ⟨c, hc⟩ : ∃ c, s.sync.1 = c := ⟨_, rfl⟩
  have HE := hid (show syncL s n k = (c, if c = 0 then n else k, s.sync.2) by rw [syncL, hc])
  have HC := hid hc
  clear hv hok hq hqx hc
  go_enter Try.func18, Try.ntmps18
  go_wp2_with fail
  refine (xSync_v x s ao cap _ HV.out HOK.out).mono ?_
  rintro _ w5 ⟨rfl, hV5, hS5⟩
  have HV5 := hid hV5
  have HQ5 := hid (HQ.out.kept (hS5.block q HQ.out.lt HQX.out.1 HQX.out.2))
  have HS5 := hid (YStep.of hS5 q)
  rw [HC.out]
  clear hV5 hS5 HV HQ c0
  by_cases hc0 : c = 0
  · subst hc0
    rw [if_pos rfl] at HE
    have c1 : w5.cell? ⟨q, 1, none⟩ = some (.int .i64 n) := HQ5.out.cell rfl
    have c2 : w5.cell? ⟨q, 2, none⟩ = some (.int .i64 k) := HQ5.out.cell rfl
    have f2 := HQ5.out.frozen 2
    have HX := hid (show RKv (w5.setCell ⟨q, 2, none⟩ (.int .i64 (n : Int))) x s.sync.2 (.slice ao s.b.length cap) ∧ YL (w5.setCell ⟨q, 2, none⟩ (.int .i64 (n : Int))) q x n n ∧ YStep w (w5.setCell ⟨q, 2, none⟩ (.int .i64 (n : Int))) x q (.slice ao s.b.length cap) (.slice ao s.b.length cap) from
      ⟨HV5.out.besides HQX.out.1 HQX.out.2 2 _, HQ5.out.setCell 2 _, HS5.out.trans (YStep.set _ _ _ _ _ _)⟩)
    clear HV5 HQ5 HS5
    go_wp2_with fail
    go_ret
    exact ⟨_, by rw [HE.out]; rfl, by rw [HE.out]; exact HX.out.1, by rw [HE.out]; exact HX.out.2.1, HX.out.2.2⟩
  · rw [if_neg hc0] at HE
    have hcb : (c == 0) = false := by simpa using hc0
    go_wp2_with fail
    go_ret
    exact ⟨_, by rw [HE.out]; rfl, by rw [HE.out]; exact HV5.out, by rw [HE.out]; exact HQ5.out, HS5.out⟩
end Go.Proofs.Ytifdoneffnfogaa
