/- The contract of the second say's Crash (chapter 10). -/
import Derived.Test.YtifdoneffnfogaaXOps
import Derived.Test.YtifdoneffnfogaaKPick
import Derived.Test.YtifdoneffnfogaaQ11e
import Derived.BigQuiet
import Derived.Deep.RegionHeld3
import Derived.Deep.DeepCutAuto
namespace Go.Proofs.Ytifdoneffnfogaa
open Go.RowKit
set_option linter.unusedSimpArgs false
set_option linter.unusedVariables false

/-- A Crash's answer with the disk behind it. -/
def XC (w : World) (x : Nat) (v : Value) (s : Dk) (e : Ending) (w' : World) : Prop := ∃ v', e = .returned (.tuple #[]) ∧ RKv w' x s v' ∧ XStep w w' x v v'
set_option maxRecDepth 100000 in
set_option maxHeartbeats 4000000 in
theorem xCrash_v (x : Nat) (s : Dk) (pick : Int) (ao : Option Addr) (cap : Nat) (hc1 : s.b.length ≤ cap) (hc2 : cap ≤ maxLen) (w : World) (hv : RKv w x s (.slice ao s.b.length cap)) (hok : s.Ok) :
    Calls Try.prog 22 #[.pointer (some ⟨x, 0, none⟩), .int .i64 pick] w (XC w x (.slice ao s.b.length cap) (s.crash pick)) := by
  obtain ⟨i0, hi, hz0, hz1, hz2⟩ := info_parts Try.infoByte
  obtain ⟨b, kept, size, left, gone⟩ := s
  simp only at hc1 hv
  have hk1 : kept ≤ b.length := hok.kept
  have hk2 : b.length ≤ size := hok.len
  have hk3 : size ≤ 65536 := hok.size
  obtain ⟨t, ht⟩ : ∃ t, (⟨b, kept, size, left, gone⟩ : Dk).stay pick = t := ⟨_, rfl⟩
  have HF := hid (show (⟨b, kept, size, left, gone⟩ : Dk).crash pick = ⟨b.take t, t, size, 0, false⟩ by rw [← ht]; rfl)
  obtain ⟨n, hn⟩ : ∃ n, b.length = n := ⟨_, rfl⟩
  have HBN := hid hn
  simp only
  rw [hn] at hk1 hk2 hc1 hv ⊢
  obtain ⟨k, hk⟩ : ∃ k, n - kept + 1 = k := ⟨_, rfl⟩
  have hkk : k ≤ 65537 := by omega
  have hk0 : 0 < k := by omega
  have hk0' : (0 : Int) < (k : Int) := by omega
  have hkne : ¬ k = 0 := by omega
  have HKK := hid (show (n : Int) - (kept : Int) + 1 = (k : Int) by omega)
  have hst : kept + (pick % (k : Int)).toNat = t := by rw [← ht]; show _ = kept + (pick % ((b.length - kept + 1 : Nat) : Int)).toNat; rw [hn, hk]
  have htn : t ≤ n := by have h2 := Int.emod_lt_of_pos pick (b := (k : Int)) (by omega); omega
  have HWT := hid (show IntKind.i64.wrap (t : Int) = (t : Int) from i64_small _ (by omega) (by omega))
  have HWK := hid (show IntKind.i64.wrap (k : Int) = (k : Int) from i64_small _ (by omega) (by omega))
  have h4 := Int.lt_tmod_of_pos pick hk0'
  have h5 := Int.tmod_lt_of_pos pick hk0'
  obtain ⟨p, hp⟩ : ∃ p : Nat, pick % (k : Int) = (p : Int) := ⟨(pick % (k : Int)).toNat, by have := Int.emod_nonneg pick (b := (k : Int)) (by omega); omega⟩
  have HM := hid (show IntKind.i64.wrap (pick.tmod k) = pick.tmod k by simp [IntKind.wrap, IntKind.bits, IntKind.signed]; omega)
  have HWS := hid (show IntKind.i64.wrap (pick.tmod k + k) = pick.tmod k + k from i64_small _ (by omega) (by omega))
  have HP := hid (show (pick.tmod k + k).tmod k = (p : Int) from (tmod_picked pick k hk0').trans hp)
  have HP2 := hid (show (pick.tmod k + k) % k = (p : Int) from (Int.tmod_eq_emod_of_nonneg (show 0 ≤ pick.tmod k + k by omega)).symm.trans ((tmod_picked pick k hk0').trans hp))
  have HT := hid (show (kept : Int) + (p : Int) = (t : Int) by rw [hp] at hst; omega)
  have HTL := hid (show (b.take t).length = t by rw [List.length_take]; omega)
  obtain ⟨po, pc, hpc, hcut, hrd⟩ := cut_low ao n cap t b hn htn hc1 hc2
  have HCUT := hid hcut
  have HRD := hid hrd
  have HV := hid hv
  have c0 := hv.c0
  have c1 := hv.c1
  clear ht hn hk hst hp hcut hrd hv hok h4 h5
  go_enter Try.func22, Try.ntmps22
  go_wp2_with fail
  go_quiet (fail)
  have HVq := hid (HV.out.drewN nq)
  have Hbq := hid (XStep.of_below (belowDrewN (Below.refl w.heap.size w) nq) x (.slice ao n cap))
  clear HV c0 c1
  generalize w.drewN nq = w1 at *
  rw [HKK.out]
  go_upto_region 1 with fail
  refine wp_region_held_drew (S := fun w' => XStep w w' x (.slice ao n cap) (.slice ao n cap)) (by kernel_rfl) (Hbq.out.trans (XStep.of_below ((Below.refl _ _).drew) _ _)) (fun hHeld => ?_)
  have c1 := HVq.out.drew.c1
  have f1 := HVq.out.drew.blk.frozen 1
  have HVd := hid HVq.out.drew
  clear HVq Hbq
  generalize w1.drew = wd at *
  refine wpAnyH_take (i := 0) (v := .pointer (some ⟨x, 0, none⟩)) rfl (by kernel_rfl) (by kernel_rfl) (by kernel_rfl) (fun _ _ _ h => h) (Or.inl ⟨by rfl, by intro w hSw; go_simp⟩) hHeld ?_
  try simp only [Act.put, List.setIfInBounds_toArray, List.set_cons_zero, List.set_cons_succ, List.getElem_toArray, List.getElem_cons_zero, List.getElem_cons_succ]
  refine wpAnyH_take (i := 1) (v := .pointer (some ⟨x, 0, none⟩)) rfl (by kernel_rfl) (by kernel_rfl) (by kernel_rfl) (fun _ _ _ h => h) (Or.inl ⟨by rfl, by intro w hSw; go_simp⟩) hHeld ?_
  try simp only [Act.put, List.setIfInBounds_toArray, List.set_cons_zero, List.set_cons_succ, List.getElem_toArray, List.getElem_cons_zero, List.getElem_cons_succ]
  refine wpAnyH_take (i := 2) (v := .pointer (some ⟨x, 0, none⟩)) rfl (by kernel_rfl) (by kernel_rfl) (by kernel_rfl) (fun _ _ _ h => h) (Or.inl ⟨by rfl, by intro w hSw; go_simp⟩) hHeld ?_
  try simp only [Act.put, List.setIfInBounds_toArray, List.set_cons_zero, List.set_cons_succ, List.getElem_toArray, List.getElem_cons_zero, List.getElem_cons_succ]
  refine wpAnyH_take (i := 3) (v := .pointer (some ⟨x, 1, none⟩)) rfl (by kernel_rfl) (by kernel_rfl) (by kernel_rfl) (fun _ _ _ h => h) (Or.inl ⟨by rfl, by intro w hSw; go_simp⟩) hHeld ?_
  try simp only [Act.put, List.setIfInBounds_toArray, List.set_cons_zero, List.set_cons_succ, List.getElem_toArray, List.getElem_cons_zero, List.getElem_cons_succ]
  refine wpAnyH_take (i := 5) (v := .int .i64 pick) rfl (by kernel_rfl) (by kernel_rfl) (by kernel_rfl) (fun _ _ _ h => h) (Or.inl ⟨by rfl, by intro w hSw; go_simp⟩) hHeld ?_
  try simp only [Act.put, List.setIfInBounds_toArray, List.set_cons_zero, List.set_cons_succ, List.getElem_toArray, List.getElem_cons_zero, List.getElem_cons_succ]
  refine wpAnyH_take (i := 6) (v := .int .i64 (k : Int)) rfl (by kernel_rfl) (by kernel_rfl) (by kernel_rfl) (fun _ _ _ h => h) (Or.inl ⟨by rfl, by intro w hSw; go_simp⟩) hHeld ?_
  try simp only [Act.put, List.setIfInBounds_toArray, List.set_cons_zero, List.set_cons_succ, List.getElem_toArray, List.getElem_cons_zero, List.getElem_cons_succ]
  refine wpAnyH_take (i := 7) (v := .int .i64 (pick.tmod k)) rfl (by kernel_rfl) (by kernel_rfl) (by kernel_rfl) (fun _ _ _ h => h) (Or.inl ⟨by rfl, by intro w hSw; have q0 := HM.out; go_simp⟩) hHeld ?_
  try simp only [Act.put, List.setIfInBounds_toArray, List.set_cons_zero, List.set_cons_succ, List.getElem_toArray, List.getElem_cons_zero, List.getElem_cons_succ]
  refine wpAnyH_take (i := 8) (v := .int .i64 (k : Int)) rfl (by kernel_rfl) (by kernel_rfl) (by kernel_rfl) (fun _ _ _ h => h) (Or.inl ⟨by rfl, by intro w hSw; go_simp⟩) hHeld ?_
  try simp only [Act.put, List.setIfInBounds_toArray, List.set_cons_zero, List.set_cons_succ, List.getElem_toArray, List.getElem_cons_zero, List.getElem_cons_succ]
  refine wpAnyH_take (i := 9) (v := .int .i64 (pick.tmod k + k)) rfl (by kernel_rfl) (by kernel_rfl) (by kernel_rfl) (fun _ _ _ h => h) (Or.inl ⟨by rfl, by intro w hSw; have q0 := HWS.out; go_simp⟩) hHeld ?_
  try simp only [Act.put, List.setIfInBounds_toArray, List.set_cons_zero, List.set_cons_succ, List.getElem_toArray, List.getElem_cons_zero, List.getElem_cons_succ]
  refine wpAnyH_take (i := 10) (v := .int .i64 (k : Int)) rfl (by kernel_rfl) (by kernel_rfl) (by kernel_rfl) (fun _ _ _ h => h) (Or.inl ⟨by rfl, by intro w hSw; go_simp⟩) hHeld ?_
  try simp only [Act.put, List.setIfInBounds_toArray, List.set_cons_zero, List.set_cons_succ, List.getElem_toArray, List.getElem_cons_zero, List.getElem_cons_succ]
  refine wpAnyH_take (i := 11) (v := .int .i64 (p : Int)) rfl (by kernel_rfl) (by kernel_rfl) (by kernel_rfl) (fun _ _ _ h => h) (Or.inl ⟨by rfl, by intro w hSw; have q0 := HP.out; have q1 := HP2.out; go_simp⟩) hHeld ?_
  try simp only [Act.put, List.setIfInBounds_toArray, List.set_cons_zero, List.set_cons_succ, List.getElem_toArray, List.getElem_cons_zero, List.getElem_cons_succ]
  refine wpAnyH_ready (rs := [4]) (by kernel_rfl) (by simp) ?_
  refine AllReadyH.cons rfl (fun K hK => ?_) (AllReadyH.nil)
  go_simp
  refine hK.out _ _ (hHeld) (fun hHeld => ?_)
  clear hK K
  try simp only [Act.put, List.setIfInBounds_toArray, List.set_cons_zero, List.set_cons_succ, List.getElem_toArray, List.getElem_cons_zero, List.getElem_cons_succ]
  refine wpAnyH_take (i := 12) (v := .int .i64 (t : Int)) rfl (by kernel_rfl) (by kernel_rfl) (by kernel_rfl) (fun _ _ _ h => h) (Or.inl ⟨by rfl, by intro w hSw; have q0 := HT.out; have q1 := HWT.out; go_simp⟩) hHeld ?_
  try simp only [Act.put, List.setIfInBounds_toArray, List.set_cons_zero, List.set_cons_succ, List.getElem_toArray, List.getElem_cons_zero, List.getElem_cons_succ]
  refine wpAnyH_take (i := 13) (v := .pointer (some ⟨x, 0, none⟩)) rfl (by kernel_rfl) (by kernel_rfl) (by kernel_rfl) (fun _ _ _ h => h) (Or.inl ⟨by rfl, by intro w hSw; go_simp⟩) hHeld ?_
  try simp only [Act.put, List.setIfInBounds_toArray, List.set_cons_zero, List.set_cons_succ, List.getElem_toArray, List.getElem_cons_zero, List.getElem_cons_succ]
  refine wpAnyH_take (i := 14) (v := .pointer (some ⟨x, 1, none⟩)) rfl (by kernel_rfl) (by kernel_rfl) (by kernel_rfl) (fun _ _ _ h => h) (Or.inl ⟨by rfl, by intro w hSw; go_simp⟩) hHeld ?_
  try simp only [Act.put, List.setIfInBounds_toArray, List.set_cons_zero, List.set_cons_succ, List.getElem_toArray, List.getElem_cons_zero, List.getElem_cons_succ]
  refine wpAnyH_ready (rs := [15]) (by kernel_rfl) (by simp) ?_
  refine AllReadyH.cons rfl (fun K hK => ?_) (AllReadyH.nil)
  go_simp
  have HV2 := hid (HVd.out.setKept t)
  have Hb2 := hid (XStep.trans hHeld (XStep.set wd x 1 (.int .i64 (t : Int)) (.slice ao n cap)))
  refine hK.out _ _ (Hb2.out) (fun hHeld => ?_)
  clear hK K
  try simp only [Act.put, List.setIfInBounds_toArray, List.set_cons_zero, List.set_cons_succ, List.getElem_toArray, List.getElem_cons_zero, List.getElem_cons_succ]
  refine wpAnyH_done (by kernel_rfl) ?_ _
  go_upto_region 2 with fail
  generalize wd.setCell ⟨x, 1, none⟩ (.int .i64 (t : Int)) = w2 at *
  clear c1 f1 HVd
  go_cut [0] (fun s w' => s = .pointer (some ⟨x, 0, none⟩) ∧ ∃ v, RKv w' x ⟨b.take t, t, size, left, gone⟩ v ∧ XStep w w' x (.slice ao n cap) v)
  case first =>
    refine wp_region_held_drew (S := fun w' => w'.cell? ⟨x, 1, none⟩ = some (.int .i64 (t : Int))) (by kernel_rfl) (HV2.out.drew.c1) (fun hHeld => ?_)
    have HVd := hid HV2.out.drew
    have Hbd := hid (Hb2.out.trans (XStep.of_below ((Below.refl w2.heap.size w2).drew) x (.slice ao n cap)))
    have hltd := HVd.out.lt
    clear HV2 Hb2
    generalize w2.drew = wd at *
    refine wpAnyH_take (i := 0) (v := .pointer (some ⟨x, 0, none⟩)) rfl (by kernel_rfl) (by kernel_rfl) (by kernel_rfl) (fun _ _ _ h => h) (Or.inl ⟨by rfl, by intro w hSw; go_simp⟩) hHeld ?_
    try simp only [Act.put, List.setIfInBounds_toArray, List.set_cons_zero, List.set_cons_succ, List.getElem_toArray, List.getElem_cons_zero, List.getElem_cons_succ]
    refine wpAnyH_take (i := 2) (v := .pointer (some ⟨x, 0, none⟩)) rfl (by kernel_rfl) (by kernel_rfl) (by kernel_rfl) (fun _ _ _ h => h) (Or.inl ⟨by rfl, by intro w hSw; go_simp⟩) hHeld ?_
    try simp only [Act.put, List.setIfInBounds_toArray, List.set_cons_zero, List.set_cons_succ, List.getElem_toArray, List.getElem_cons_zero, List.getElem_cons_succ]
    refine wpAnyH_take (i := 3) (v := .pointer (some ⟨x, 0, none⟩)) rfl (by kernel_rfl) (by kernel_rfl) (by kernel_rfl) (fun _ _ _ h => h) (Or.inl ⟨by rfl, by intro w hSw; go_simp⟩) hHeld ?_
    try simp only [Act.put, List.setIfInBounds_toArray, List.set_cons_zero, List.set_cons_succ, List.getElem_toArray, List.getElem_cons_zero, List.getElem_cons_succ]
    refine wpAnyH_take (i := 4) (v := .pointer (some ⟨x, 0, none⟩)) rfl (by kernel_rfl) (by kernel_rfl) (by kernel_rfl) (fun _ _ _ h => h) (Or.inl ⟨by rfl, by intro w hSw; go_simp⟩) hHeld ?_
    try simp only [Act.put, List.setIfInBounds_toArray, List.set_cons_zero, List.set_cons_succ, List.getElem_toArray, List.getElem_cons_zero, List.getElem_cons_succ]
    refine wpAnyH_take (i := 6) (v := .pointer (some ⟨x, 0, none⟩)) rfl (by kernel_rfl) (by kernel_rfl) (by kernel_rfl) (fun _ _ _ h => h) (Or.inl ⟨by rfl, by intro w hSw; go_simp⟩) hHeld ?_
    try simp only [Act.put, List.setIfInBounds_toArray, List.set_cons_zero, List.set_cons_succ, List.getElem_toArray, List.getElem_cons_zero, List.getElem_cons_succ]
    refine wpAnyH_take (i := 7) (v := .pointer (some ⟨x, 0, none⟩)) rfl (by kernel_rfl) (by kernel_rfl) (by kernel_rfl) (fun _ _ _ h => h) (Or.inl ⟨by rfl, by intro w hSw; go_simp⟩) hHeld ?_
    try simp only [Act.put, List.setIfInBounds_toArray, List.set_cons_zero, List.set_cons_succ, List.getElem_toArray, List.getElem_cons_zero, List.getElem_cons_succ]
    refine wpAnyH_take (i := 8) (v := .pointer (some ⟨x, 1, none⟩)) rfl (by kernel_rfl) (by kernel_rfl) (by kernel_rfl) (fun _ _ _ h => h) (Or.inl ⟨by rfl, by intro w hSw; go_simp⟩) hHeld ?_
    try simp only [Act.put, List.setIfInBounds_toArray, List.set_cons_zero, List.set_cons_succ, List.getElem_toArray, List.getElem_cons_zero, List.getElem_cons_succ]
    refine wpAnyH_take (i := 9) (v := .int .i64 (t : Int)) rfl (by kernel_rfl) (by kernel_rfl) (by kernel_rfl) (fun _ _ _ h => h) (Or.inl ⟨by rfl, by intro w hSw; have q0 := hSw; go_simp⟩) hHeld ?_
    try simp only [Act.put, List.setIfInBounds_toArray, List.set_cons_zero, List.set_cons_succ, List.getElem_toArray, List.getElem_cons_zero, List.getElem_cons_succ]
    refine wpAnyH_ready (rs := [1, 5]) (by kernel_rfl) (by simp) ?_
    refine AllReadyH.cons rfl (fun K hK => ?_) (AllReadyH.cons rfl (fun K hK => ?_) (AllReadyH.nil))
    · go_simp
      have HVA := hid (HVd.out.later ((Below.refl wd.heap.size wd).alloc (Nat.le_refl _) (.cells #[] 5)))
      refine hK.out _ _ (HVA.out.c1) (fun hHeld => ?_)
      clear hK K
      try simp only [Act.put, List.setIfInBounds_toArray, List.set_cons_zero, List.set_cons_succ, List.getElem_toArray, List.getElem_cons_zero, List.getElem_cons_succ]
      refine wpAnyH_ready (rs := [5]) (by kernel_rfl) (by simp) ?_
      refine AllReadyH.cons rfl (fun K hK => ?_) (AllReadyH.nil)
      have c0 := HVA.out.c0
      go_simp
      refine hK.out _ _ (hHeld) (fun hHeld => ?_)
      clear hK K
      try simp only [Act.put, List.setIfInBounds_toArray, List.set_cons_zero, List.set_cons_succ, List.getElem_toArray, List.getElem_cons_zero, List.getElem_cons_succ]
      refine wpAnyH_take (i := 10) (v := .slice po t pc) rfl (by kernel_rfl) (by kernel_rfl) (by kernel_rfl) (fun _ _ _ h => h) (Or.inl ⟨by rfl, by intro w hSw; have q0 := HCUT.out; go_simp⟩) hHeld ?_
      try simp only [Act.put, List.setIfInBounds_toArray, List.set_cons_zero, List.set_cons_succ, List.getElem_toArray, List.getElem_cons_zero, List.getElem_cons_succ]
      refine wpAnyH_ready (rs := [11]) (by kernel_rfl) (by simp) ?_
      refine AllReadyH.cons rfl (fun K hK => ?_) (AllReadyH.nil)
      refine Eq.mpr (if_pos (by rfl)) ?_
      refine wp_append_any _ _ _ 37 37 rfl 5 i0 (.int .u8 0) Try.underlying37 hi hz0 hz1 hz2 rfl wd.heap.size _ 0 [] rfl (.inr ⟨wd.heap.size, 0, rfl, Nat.le_refl _, Owns.empty _ _⟩) (by simp) _ t (B (b.take t)) rfl (Src.ofBytes _ Try.underlying37 HTL.out (HRD.out _ HVA.out.reads)) (by omega) ?_
      intro v3 w3 hH3 hb3
      rw [List.nil_append, Nat.zero_add] at hH3
      obtain ⟨a3, k3, rfl⟩ := hH3.form
      have HB3 := hid (HVA.out.blk.kept (hb3.block x hltd))
      have HX := hid (And.intro (HVA.out.setB (hb3.mono hltd) (hH3.mono hltd)) (Hbd.out.trans (XStep.put (((Below.refl wd.heap.size wd).alloc (Nat.le_refl _) (.cells #[] 5)).trans hb3) hH3 x 0 (.slice ao n cap))))
      have f0 := HB3.out.frozen 0
      have c0' : w3.cell? ⟨x, 0, none⟩ = some (.slice ao n cap) := HB3.out.cell rfl
      refine hK.out _ _ (HB3.out.cell rfl) (fun hHeld => ?_)
      clear hK K hH3 hb3
      try simp only [Act.put, List.setIfInBounds_toArray, List.set_cons_zero, List.set_cons_succ, List.getElem_toArray, List.getElem_cons_zero, List.getElem_cons_succ]
      refine wpAnyH_take (i := 12) (v := .pointer (some ⟨x, 0, none⟩)) rfl (by kernel_rfl) (by kernel_rfl) (by kernel_rfl) (fun _ _ _ h => h) (Or.inl ⟨by rfl, by intro w hSw; go_simp⟩) hHeld ?_
      try simp only [Act.put, List.setIfInBounds_toArray, List.set_cons_zero, List.set_cons_succ, List.getElem_toArray, List.getElem_cons_zero, List.getElem_cons_succ]
      refine wpAnyH_take (i := 13) (v := .pointer (some ⟨x, 0, none⟩)) rfl (by kernel_rfl) (by kernel_rfl) (by kernel_rfl) (fun _ _ _ h => h) (Or.inl ⟨by rfl, by intro w hSw; go_simp⟩) hHeld ?_
      try simp only [Act.put, List.setIfInBounds_toArray, List.set_cons_zero, List.set_cons_succ, List.getElem_toArray, List.getElem_cons_zero, List.getElem_cons_succ]
      refine wpAnyH_ready (rs := [14]) (by kernel_rfl) (by simp) ?_
      refine AllReadyH.cons rfl (fun K hK => ?_) (AllReadyH.nil)
      go_simp
      refine hK.out _ _ (HX.out.1.c1) (fun hHeld => ?_)
      clear hK K
      try simp only [Act.put, List.setIfInBounds_toArray, List.set_cons_zero, List.set_cons_succ, List.getElem_toArray, List.getElem_cons_zero, List.getElem_cons_succ]
      refine wpAnyH_done (by kernel_rfl) ?_ _
      clear c0' f0 HB3
      go_wp2_with fail
      go_meet
      exact ⟨rfl, _, HX.out⟩
    · have c0 := HVd.out.c0
      go_simp
      refine hK.out _ _ (hHeld) (fun hHeld => ?_)
      clear hK K
      try simp only [Act.put, List.setIfInBounds_toArray, List.set_cons_zero, List.set_cons_succ, List.getElem_toArray, List.getElem_cons_zero, List.getElem_cons_succ]
      refine wpAnyH_take (i := 10) (v := .slice po t pc) rfl (by kernel_rfl) (by kernel_rfl) (by kernel_rfl) (fun _ _ _ h => h) (Or.inl ⟨by rfl, by intro w hSw; have q0 := HCUT.out; go_simp⟩) hHeld ?_
      try simp only [Act.put, List.setIfInBounds_toArray, List.set_cons_zero, List.set_cons_succ, List.getElem_toArray, List.getElem_cons_zero, List.getElem_cons_succ]
      refine wpAnyH_ready (rs := [1]) (by kernel_rfl) (by simp) ?_
      refine AllReadyH.cons rfl (fun K hK => ?_) (AllReadyH.nil)
      go_simp
      have HVA := hid (HVd.out.later ((Below.refl wd.heap.size wd).alloc (Nat.le_refl _) (.cells #[] 5)))
      refine hK.out _ _ (HVA.out.c1) (fun hHeld => ?_)
      clear hK K
      try simp only [Act.put, List.setIfInBounds_toArray, List.set_cons_zero, List.set_cons_succ, List.getElem_toArray, List.getElem_cons_zero, List.getElem_cons_succ]
      refine wpAnyH_ready (rs := [11]) (by kernel_rfl) (by simp) ?_
      refine AllReadyH.cons rfl (fun K hK => ?_) (AllReadyH.nil)
      refine Eq.mpr (if_pos (by rfl)) ?_
      refine wp_append_any _ _ _ 37 37 rfl 5 i0 (.int .u8 0) Try.underlying37 hi hz0 hz1 hz2 rfl wd.heap.size _ 0 [] rfl (.inr ⟨wd.heap.size, 0, rfl, Nat.le_refl _, Owns.empty _ _⟩) (by simp) _ t (B (b.take t)) rfl (Src.ofBytes _ Try.underlying37 HTL.out (HRD.out _ HVA.out.reads)) (by omega) ?_
      intro v3 w3 hH3 hb3
      rw [List.nil_append, Nat.zero_add] at hH3
      obtain ⟨a3, k3, rfl⟩ := hH3.form
      have HB3 := hid (HVA.out.blk.kept (hb3.block x hltd))
      have HX := hid (And.intro (HVA.out.setB (hb3.mono hltd) (hH3.mono hltd)) (Hbd.out.trans (XStep.put (((Below.refl wd.heap.size wd).alloc (Nat.le_refl _) (.cells #[] 5)).trans hb3) hH3 x 0 (.slice ao n cap))))
      have f0 := HB3.out.frozen 0
      have c0' : w3.cell? ⟨x, 0, none⟩ = some (.slice ao n cap) := HB3.out.cell rfl
      refine hK.out _ _ (HB3.out.cell rfl) (fun hHeld => ?_)
      clear hK K hH3 hb3
      try simp only [Act.put, List.setIfInBounds_toArray, List.set_cons_zero, List.set_cons_succ, List.getElem_toArray, List.getElem_cons_zero, List.getElem_cons_succ]
      refine wpAnyH_take (i := 12) (v := .pointer (some ⟨x, 0, none⟩)) rfl (by kernel_rfl) (by kernel_rfl) (by kernel_rfl) (fun _ _ _ h => h) (Or.inl ⟨by rfl, by intro w hSw; go_simp⟩) hHeld ?_
      try simp only [Act.put, List.setIfInBounds_toArray, List.set_cons_zero, List.set_cons_succ, List.getElem_toArray, List.getElem_cons_zero, List.getElem_cons_succ]
      refine wpAnyH_take (i := 13) (v := .pointer (some ⟨x, 0, none⟩)) rfl (by kernel_rfl) (by kernel_rfl) (by kernel_rfl) (fun _ _ _ h => h) (Or.inl ⟨by rfl, by intro w hSw; go_simp⟩) hHeld ?_
      try simp only [Act.put, List.setIfInBounds_toArray, List.set_cons_zero, List.set_cons_succ, List.getElem_toArray, List.getElem_cons_zero, List.getElem_cons_succ]
      refine wpAnyH_ready (rs := [14]) (by kernel_rfl) (by simp) ?_
      refine AllReadyH.cons rfl (fun K hK => ?_) (AllReadyH.nil)
      go_simp
      refine hK.out _ _ (HX.out.1.c1) (fun hHeld => ?_)
      clear hK K
      try simp only [Act.put, List.setIfInBounds_toArray, List.set_cons_zero, List.set_cons_succ, List.getElem_toArray, List.getElem_cons_zero, List.getElem_cons_succ]
      refine wpAnyH_done (by kernel_rfl) ?_ _
      clear c0' f0 HB3
      go_wp2_with fail
      go_meet
      exact ⟨rfl, _, HX.out⟩
  case rest =>
  obtain ⟨rfl, v, hV, hb⟩ := hcut
  have c3 := hV.c3
  have c4 := hV.c4
  have f3 := hV.blk.frozen 3
  have f4 := hV.blk.frozen 4
  have HX := hid (show RKv ((wc.setCell ⟨x, 3, none⟩ (.int .i64 0)).setCell ⟨x, 4, none⟩ (.bool false)) x ((⟨b, kept, size, left, gone⟩ : Dk).crash pick) v ∧ XStep w ((wc.setCell ⟨x, 3, none⟩ (.int .i64 0)).setCell ⟨x, 4, none⟩ (.bool false)) x (.slice ao n cap) v by
    rw [HF.out]
    exact ⟨(hV.setLeft 0).setGone false, (hb.trans (XStep.set _ _ _ _ _)).trans (XStep.set _ _ _ _ _)⟩)
  clear hV hb
  go_wp2_with fail
  go_end0
  exact ⟨v, rfl, HX.out⟩
theorem xCrash_any (x : Nat) (s : Dk) (pick : Int) (w : World) (h : RK w x s) :
    Calls Try.prog 22 #[.pointer (some ⟨x, 0, none⟩), .int .i64 pick] w fun e w' => e = .returned (.tuple #[]) ∧ RK w' x (s.crash pick) ∧ Below x w w' := by
  obtain ⟨ao, cap, hv, hc1, hc2⟩ := h.opened
  exact (xCrash_v x s pick ao cap hc1 hc2 w hv h.ok).mono fun _ _ ⟨_, h1, h2, h3⟩ => ⟨h1, h2.shut (s.crash_ok h.ok pick), h3.below hv⟩
end Go.Proofs.Ytifdoneffnfogaa
