/- Texts laid together: KSyn, KCrash, KAt. -/
import Derived.Test.YtifdoneffnfogaaKSt
import Derived.Test.YtifdoneffnfogaaKOps
import Derived.Test.YtifdoneffnfogaaKPick
import Derived.Deep.RegionHeld3
import Derived.Deep.Cut
import Derived.Test.YtifdoneffnfogaaKAt0

/- The contract of package disk's Synced. -/
namespace Go.Proofs.Ytifdoneffnfogaa
open Go.RowKit
set_option linter.unusedSimpArgs false
set_option linter.unusedVariables false

set_option maxRecDepth 100000 in
theorem kSynced_any (d r : Nat) (s : Dk) (w : World) (h : DK w d r s) : Calls Try.prog 45 #[.pointer (some ⟨d, 0, none⟩)] w fun e w' => e = .returned (.int .i64 (s.kept : Int)) ∧ w' = w := by
  have c1 := h.c1
  have h1 := h.ok.kept
  have h2 := h.ok.len
  have h3 := h.ok.size
  clear h
  go_enter Try.func45, Try.ntmps45
  go_wp2_with fail
  refine (kfrom_any s.kept _ (by omega) _).mono ?_
  rintro _ w1 ⟨rfl, rfl⟩
  go_wp2_with fail
  go_ret
  exact ⟨rfl, rfl⟩
end Go.Proofs.Ytifdoneffnfogaa

/- The contract of package disk's Crash. -/
namespace Go.Proofs.Ytifdoneffnfogaa
open Go.RowKit
set_option linter.unusedSimpArgs false
set_option linter.unusedVariables false

theorem i64_small (n : Int) (h0 : 0 ≤ n) (h1 : n ≤ 9223372036854775807) : IntKind.i64.wrap n = n := by
  simp [IntKind.wrap, IntKind.bits, IntKind.signed]; omega

theorem Dk.crash_cut (b : List UInt8) (kept size left : Nat) (gone : Bool) (pick : Int) (h1 : kept ≤ b.length) : ((⟨b, kept, size, 0, false⟩ : Dk).cut ((⟨b, kept, size, left, gone⟩ : Dk).stay pick : Nat)).2 = (⟨b, kept, size, left, gone⟩ : Dk).crash pick := by
  have h2 := Int.emod_lt_of_pos pick (b := ((b.length - kept + 1 : Nat) : Int)) (by omega)
  have h3 := Int.emod_nonneg pick (b := ((b.length - kept + 1 : Nat) : Int)) (by omega)
  have h4 : (⟨b, kept, size, left, gone⟩ : Dk).stay pick ≤ b.length := by
    show kept + (pick % ((b.length - kept + 1 : Nat) : Int)).toNat ≤ _
    omega
  rw [Dk.cut, if_neg (by simp), if_neg (by simp only; omega), if_neg (by simp)]
  rfl

set_option maxRecDepth 100000 in
set_option maxHeartbeats 4000000 in
theorem kCrash_any (d r : Nat) (s : Dk) (pick : Int) (w : World) (h : DK w d r s) :
    Calls Try.prog 21 #[.pointer (some ⟨d, 0, none⟩), .int .i64 pick] w fun e w' => e = .returned (.tuple #[]) ∧ DK w' d r (s.crash pick) ∧ Only w w' d r := by
  obtain ⟨b, kept, size, left, gone⟩ := s
  have c2 := h.c2
  have c3 := h.c3
  have f2 := h.blk.frozen 2
  have f3 := h.blk.frozen 3
  have hk1 : kept ≤ b.length := h.ok.kept
  have hk2 : b.length ≤ size := h.ok.len
  have hk3 : size ≤ 65536 := h.ok.size
  have HS := hid (show ∀ w1, w1 = (w.setCell ⟨d, 3, none⟩ (.bool false)).setCell ⟨d, 2, none⟩ (.int .i64 0) → DK w1 d r ⟨b, kept, size, 0, false⟩ ∧ Only w w1 d r by
    rintro _ rfl
    exact ⟨(h.setGone false).setLeft 0 (by omega), (Only.set _ _ _ _ _).trans (Only.set _ _ _ _ _)⟩)
  clear h
  obtain ⟨t, ht⟩ : ∃ t, (⟨b, kept, size, left, gone⟩ : Dk).stay pick = t := ⟨_, rfl⟩
  have HF := hid (show ∀ w', DK w' d r ((⟨b, kept, size, 0, false⟩ : Dk).cut (t : Int)).2 → DK w' d r ((⟨b, kept, size, left, gone⟩ : Dk).crash pick) from fun w' hw => by
    rw [← ht, Dk.crash_cut _ _ _ _ _ _ hk1] at hw
    exact hw)
  obtain ⟨n, hn⟩ : ∃ n, b.length = n := ⟨_, rfl⟩
  rw [hn] at hk1 hk2
  obtain ⟨k, hk⟩ : ∃ k, n - kept + 1 = k := ⟨_, rfl⟩
  have hkk : k ≤ 65537 := by omega
  have hk0 : 0 < k := by omega
  have HKK := hid (show ((n - kept : Nat) : Int) + 1 = (k : Int) by omega)
  have hst : kept + (pick % (k : Int)).toNat = t := by rw [← ht]; show _ = kept + (pick % ((b.length - kept + 1 : Nat) : Int)).toNat; rw [hn, hk]
  have htn : t ≤ n := by have h2 := Int.emod_lt_of_pos pick (b := (k : Int)) (by omega); omega
  have HWK := hid (show IntKind.i64.wrap (k : Int) = (k : Int) from i64_small _ (by omega) (by omega))
  have HWT := hid (show IntKind.i64.wrap (t : Int) = (t : Int) from i64_small _ (by omega) (by omega))
  obtain ⟨p, hp⟩ : ∃ p : Nat, pick % (k : Int) = (p : Int) := ⟨(pick % (k : Int)).toNat, by have := Int.emod_nonneg pick (b := (k : Int)) (by omega); omega⟩
  have HP := hid hp
  have HT := hid (show (kept : Int) + (p : Int) = (t : Int) by rw [hp] at hst; omega)
  have HC := hid (show ∀ wx, DK wx d r ⟨b, kept, size, 0, false⟩ → wx.cell? ⟨d, 1, none⟩ = some (st kept (n - kept)) from fun wx hx => by rw [← hn]; exact hx.c1)
  clear ht hn hk hst hp
  go_enter Try.func21, Try.ntmps21
  go_upto_region 1 with fail
  obtain ⟨w1, hw1⟩ : ∃ w1, w1 = (w.setCell ⟨d, 3, none⟩ (.bool false)).setCell ⟨d, 2, none⟩ (.int .i64 0) := ⟨_, rfl⟩
  rw [← hw1]
  have HD1 := hid (HS.out _ hw1).1
  have Ho1 := hid (HS.out _ hw1).2
  clear HS hw1 c2 c3 f2 f3
  have HD := hid (HD1.out.drew)
  have c1 := HC.out _ HD.out
  clear HD1 HC
  refine wp_region_held_drew (S := fun w' => Only w w' d r) (by kernel_rfl) (Ho1.out.drew) (fun hHeld => ?_)
  generalize w1.drew = wd at *
  refine wpAnyH_take (i := 0) (v := .pointer (some ⟨d, 0, none⟩)) rfl (by kernel_rfl) (by kernel_rfl) (by kernel_rfl) (fun _ _ _ h => h) (Or.inl ⟨by rfl, by intro w hSw; go_simp⟩) hHeld ?_
  try simp only [Act.put, List.setIfInBounds_toArray, List.set_cons_zero, List.set_cons_succ, List.getElem_toArray, List.getElem_cons_zero, List.getElem_cons_succ]
  refine wpAnyH_take (i := 1) (v := .pointer (some ⟨d, 0, none⟩)) rfl (by kernel_rfl) (by kernel_rfl) (by kernel_rfl) (fun _ _ _ h => h) (Or.inl ⟨by rfl, by intro w hSw; go_simp⟩) hHeld ?_
  try simp only [Act.put, List.setIfInBounds_toArray, List.set_cons_zero, List.set_cons_succ, List.getElem_toArray, List.getElem_cons_zero, List.getElem_cons_succ]
  refine wpAnyH_take (i := 2) (v := .pointer (some ⟨d, 0, none⟩)) rfl (by kernel_rfl) (by kernel_rfl) (by kernel_rfl) (fun _ _ _ h => h) (Or.inl ⟨by rfl, by intro w hSw; go_simp⟩) hHeld ?_
  try simp only [Act.put, List.setIfInBounds_toArray, List.set_cons_zero, List.set_cons_succ, List.getElem_toArray, List.getElem_cons_zero, List.getElem_cons_succ]
  refine wpAnyH_take (i := 3) (v := .pointer (some ⟨d, 1, none⟩)) rfl (by kernel_rfl) (by kernel_rfl) (by kernel_rfl) (fun _ _ _ h => h) (Or.inl ⟨by rfl, by intro w hSw; go_simp⟩) hHeld ?_
  try simp only [Act.put, List.setIfInBounds_toArray, List.set_cons_zero, List.set_cons_succ, List.getElem_toArray, List.getElem_cons_zero, List.getElem_cons_succ]
  refine wpAnyH_take (i := 6) (v := .int .i64 pick) rfl (by kernel_rfl) (by kernel_rfl) (by kernel_rfl) (fun _ _ _ h => h) (Or.inl ⟨by rfl, by intro w hSw; go_simp⟩) hHeld ?_
  try simp only [Act.put, List.setIfInBounds_toArray, List.set_cons_zero, List.set_cons_succ, List.getElem_toArray, List.getElem_cons_zero, List.getElem_cons_succ]
  refine wpAnyH_take (i := 7) (v := .pointer (some ⟨d, 0, none⟩)) rfl (by kernel_rfl) (by kernel_rfl) (by kernel_rfl) (fun _ _ _ h => h) (Or.inl ⟨by rfl, by intro w hSw; go_simp⟩) hHeld ?_
  try simp only [Act.put, List.setIfInBounds_toArray, List.set_cons_zero, List.set_cons_succ, List.getElem_toArray, List.getElem_cons_zero, List.getElem_cons_succ]
  refine wpAnyH_take (i := 8) (v := .pointer (some ⟨d, 0, none⟩)) rfl (by kernel_rfl) (by kernel_rfl) (by kernel_rfl) (fun _ _ _ h => h) (Or.inl ⟨by rfl, by intro w hSw; go_simp⟩) hHeld ?_
  try simp only [Act.put, List.setIfInBounds_toArray, List.set_cons_zero, List.set_cons_succ, List.getElem_toArray, List.getElem_cons_zero, List.getElem_cons_succ]
  refine wpAnyH_take (i := 9) (v := .pointer (some ⟨d, 1, none⟩)) rfl (by kernel_rfl) (by kernel_rfl) (by kernel_rfl) (fun _ _ _ h => h) (Or.inl ⟨by rfl, by intro w hSw; go_simp⟩) hHeld ?_
  try simp only [Act.put, List.setIfInBounds_toArray, List.set_cons_zero, List.set_cons_succ, List.getElem_toArray, List.getElem_cons_zero, List.getElem_cons_succ]
  refine wpAnyH_ready (rs := [4, 10]) (by kernel_rfl) (by simp) ?_
  refine AllReadyH.cons rfl (fun K hK => ?_) (AllReadyH.cons rfl (fun K hK => ?_) (AllReadyH.nil))
  · go_simp
    refine hK.out _ _ (hHeld) (fun hHeld => ?_)
    clear hK K
    try simp only [Act.put, List.setIfInBounds_toArray, List.set_cons_zero, List.set_cons_succ, List.getElem_toArray, List.getElem_cons_zero, List.getElem_cons_succ]
    refine wpAnyH_ready (rs := [5, 10]) (by kernel_rfl) (by simp) ?_
    refine AllReadyH.cons rfl (fun K hK => ?_) (AllReadyH.cons rfl (fun K hK => ?_) (AllReadyH.nil))
    · go_simp
      refine (kfrom_any kept (n - kept) (by omega) _).mono ?_
      rintro _ wx ⟨rfl, hwx⟩
      rw [hwx]
      clear hwx wx
      refine hK.out _ _ (hHeld) (fun hHeld => ?_)
      clear hK K
      try simp only [Act.put, List.setIfInBounds_toArray, List.set_cons_zero, List.set_cons_succ, List.getElem_toArray, List.getElem_cons_zero, List.getElem_cons_succ]
      refine wpAnyH_ready (rs := [10]) (by kernel_rfl) (by simp) ?_
      refine AllReadyH.cons rfl (fun K hK => ?_) (AllReadyH.nil)
      go_simp
      refine hK.out _ _ (hHeld) (fun hHeld => ?_)
      clear hK K
      try simp only [Act.put, List.setIfInBounds_toArray, List.set_cons_zero, List.set_cons_succ, List.getElem_toArray, List.getElem_cons_zero, List.getElem_cons_succ]
      refine wpAnyH_ready (rs := [11]) (by kernel_rfl) (by simp) ?_
      refine AllReadyH.cons rfl (fun K hK => ?_) (AllReadyH.nil)
      go_simp
      refine (ksize_any kept (n - kept) (by omega) _).mono ?_
      rintro _ wx ⟨rfl, hwx⟩
      rw [hwx]
      clear hwx wx
      refine hK.out _ _ (hHeld) (fun hHeld => ?_)
      clear hK K
      try simp only [Act.put, List.setIfInBounds_toArray, List.set_cons_zero, List.set_cons_succ, List.getElem_toArray, List.getElem_cons_zero, List.getElem_cons_succ]
      refine wpAnyH_take (i := 12) (v := .int .i64 (k : Int)) rfl (by kernel_rfl) (by kernel_rfl) (by kernel_rfl) (fun _ _ _ h => h) (Or.inl ⟨by rfl, by intro w hSw; have q := HKK.out; have q2 := HWK.out; go_simp⟩) hHeld ?_
      try simp only [Act.put, List.setIfInBounds_toArray, List.set_cons_zero, List.set_cons_succ, List.getElem_toArray, List.getElem_cons_zero, List.getElem_cons_succ]
      refine wpAnyH_ready (rs := [13]) (by kernel_rfl) (by simp) ?_
      refine AllReadyH.cons rfl (fun K hK => ?_) (AllReadyH.nil)
      go_simp
      refine (kpicked_any pick (k : Int) (by omega) (by omega) _).mono ?_
      rintro _ wx ⟨rfl, hwx⟩
      rw [hwx, HP.out]
      clear hwx wx
      refine hK.out _ _ (hHeld) (fun hHeld => ?_)
      clear hK K
      try simp only [Act.put, List.setIfInBounds_toArray, List.set_cons_zero, List.set_cons_succ, List.getElem_toArray, List.getElem_cons_zero, List.getElem_cons_succ]
      refine wpAnyH_take (i := 14) (v := .int .i64 (t : Int)) rfl (by kernel_rfl) (by kernel_rfl) (by kernel_rfl) (fun _ _ _ h => h) (Or.inl ⟨by rfl, by intro w hSw; have q := HT.out; have q2 := HWT.out; go_simp⟩) hHeld ?_
      try simp only [Act.put, List.setIfInBounds_toArray, List.set_cons_zero, List.set_cons_succ, List.getElem_toArray, List.getElem_cons_zero, List.getElem_cons_succ]
      refine wpAnyH_ready (rs := [15]) (by kernel_rfl) (by simp) ?_
      refine AllReadyH.cons rfl (fun K hK => ?_) (AllReadyH.nil)
      go_simp
      refine (kCut_any d r _ (t : Int) _ HD.out).mono ?_
      rintro _ w2 ⟨rfl, hD2, ho2⟩
      have HD2 := hid hD2
      have Ho2 := hid (Only.trans hHeld ho2)
      clear hD2 ho2 hHeld
      refine hK.out _ _ (Ho2.out) (fun hHeld => ?_)
      clear hK K
      try simp only [Act.put, List.setIfInBounds_toArray, List.set_cons_zero, List.set_cons_succ, List.getElem_toArray, List.getElem_cons_zero, List.getElem_cons_succ]
      refine wpAnyH_done (by kernel_rfl) ?_ _
      go_wp2_with fail
      go_end0
      exact ⟨rfl, HF.out _ HD2.out, Ho2.out⟩
    · go_simp
      refine hK.out _ _ (hHeld) (fun hHeld => ?_)
      clear hK K
      try simp only [Act.put, List.setIfInBounds_toArray, List.set_cons_zero, List.set_cons_succ, List.getElem_toArray, List.getElem_cons_zero, List.getElem_cons_succ]
      refine wpAnyH_ready (rs := [5]) (by kernel_rfl) (by simp) ?_
      refine AllReadyH.cons rfl (fun K hK => ?_) (AllReadyH.nil)
      go_simp
      refine (kfrom_any kept (n - kept) (by omega) _).mono ?_
      rintro _ wx ⟨rfl, hwx⟩
      rw [hwx]
      clear hwx wx
      refine hK.out _ _ (hHeld) (fun hHeld => ?_)
      clear hK K
      try simp only [Act.put, List.setIfInBounds_toArray, List.set_cons_zero, List.set_cons_succ, List.getElem_toArray, List.getElem_cons_zero, List.getElem_cons_succ]
      refine wpAnyH_ready (rs := [11]) (by kernel_rfl) (by simp) ?_
      refine AllReadyH.cons rfl (fun K hK => ?_) (AllReadyH.nil)
      go_simp
      refine (ksize_any kept (n - kept) (by omega) _).mono ?_
      rintro _ wx ⟨rfl, hwx⟩
      rw [hwx]
      clear hwx wx
      refine hK.out _ _ (hHeld) (fun hHeld => ?_)
      clear hK K
      try simp only [Act.put, List.setIfInBounds_toArray, List.set_cons_zero, List.set_cons_succ, List.getElem_toArray, List.getElem_cons_zero, List.getElem_cons_succ]
      refine wpAnyH_take (i := 12) (v := .int .i64 (k : Int)) rfl (by kernel_rfl) (by kernel_rfl) (by kernel_rfl) (fun _ _ _ h => h) (Or.inl ⟨by rfl, by intro w hSw; have q := HKK.out; have q2 := HWK.out; go_simp⟩) hHeld ?_
      try simp only [Act.put, List.setIfInBounds_toArray, List.set_cons_zero, List.set_cons_succ, List.getElem_toArray, List.getElem_cons_zero, List.getElem_cons_succ]
      refine wpAnyH_ready (rs := [13]) (by kernel_rfl) (by simp) ?_
      refine AllReadyH.cons rfl (fun K hK => ?_) (AllReadyH.nil)
      go_simp
      refine (kpicked_any pick (k : Int) (by omega) (by omega) _).mono ?_
      rintro _ wx ⟨rfl, hwx⟩
      rw [hwx, HP.out]
      clear hwx wx
      refine hK.out _ _ (hHeld) (fun hHeld => ?_)
      clear hK K
      try simp only [Act.put, List.setIfInBounds_toArray, List.set_cons_zero, List.set_cons_succ, List.getElem_toArray, List.getElem_cons_zero, List.getElem_cons_succ]
      refine wpAnyH_take (i := 14) (v := .int .i64 (t : Int)) rfl (by kernel_rfl) (by kernel_rfl) (by kernel_rfl) (fun _ _ _ h => h) (Or.inl ⟨by rfl, by intro w hSw; have q := HT.out; have q2 := HWT.out; go_simp⟩) hHeld ?_
      try simp only [Act.put, List.setIfInBounds_toArray, List.set_cons_zero, List.set_cons_succ, List.getElem_toArray, List.getElem_cons_zero, List.getElem_cons_succ]
      refine wpAnyH_ready (rs := [15]) (by kernel_rfl) (by simp) ?_
      refine AllReadyH.cons rfl (fun K hK => ?_) (AllReadyH.nil)
      go_simp
      refine (kCut_any d r _ (t : Int) _ HD.out).mono ?_
      rintro _ w2 ⟨rfl, hD2, ho2⟩
      have HD2 := hid hD2
      have Ho2 := hid (Only.trans hHeld ho2)
      clear hD2 ho2 hHeld
      refine hK.out _ _ (Ho2.out) (fun hHeld => ?_)
      clear hK K
      try simp only [Act.put, List.setIfInBounds_toArray, List.set_cons_zero, List.set_cons_succ, List.getElem_toArray, List.getElem_cons_zero, List.getElem_cons_succ]
      refine wpAnyH_done (by kernel_rfl) ?_ _
      go_wp2_with fail
      go_end0
      exact ⟨rfl, HF.out _ HD2.out, Ho2.out⟩
  · go_simp
    refine hK.out _ _ (hHeld) (fun hHeld => ?_)
    clear hK K
    try simp only [Act.put, List.setIfInBounds_toArray, List.set_cons_zero, List.set_cons_succ, List.getElem_toArray, List.getElem_cons_zero, List.getElem_cons_succ]
    refine wpAnyH_ready (rs := [4]) (by kernel_rfl) (by simp) ?_
    refine AllReadyH.cons rfl (fun K hK => ?_) (AllReadyH.nil)
    go_simp
    refine hK.out _ _ (hHeld) (fun hHeld => ?_)
    clear hK K
    try simp only [Act.put, List.setIfInBounds_toArray, List.set_cons_zero, List.set_cons_succ, List.getElem_toArray, List.getElem_cons_zero, List.getElem_cons_succ]
    refine wpAnyH_ready (rs := [5]) (by kernel_rfl) (by simp) ?_
    refine AllReadyH.cons rfl (fun K hK => ?_) (AllReadyH.nil)
    go_simp
    refine (kfrom_any kept (n - kept) (by omega) _).mono ?_
    rintro _ wx ⟨rfl, hwx⟩
    rw [hwx]
    clear hwx wx
    refine hK.out _ _ (hHeld) (fun hHeld => ?_)
    clear hK K
    try simp only [Act.put, List.setIfInBounds_toArray, List.set_cons_zero, List.set_cons_succ, List.getElem_toArray, List.getElem_cons_zero, List.getElem_cons_succ]
    refine wpAnyH_ready (rs := [11]) (by kernel_rfl) (by simp) ?_
    refine AllReadyH.cons rfl (fun K hK => ?_) (AllReadyH.nil)
    go_simp
    refine (ksize_any kept (n - kept) (by omega) _).mono ?_
    rintro _ wx ⟨rfl, hwx⟩
    rw [hwx]
    clear hwx wx
    refine hK.out _ _ (hHeld) (fun hHeld => ?_)
    clear hK K
    try simp only [Act.put, List.setIfInBounds_toArray, List.set_cons_zero, List.set_cons_succ, List.getElem_toArray, List.getElem_cons_zero, List.getElem_cons_succ]
    refine wpAnyH_take (i := 12) (v := .int .i64 (k : Int)) rfl (by kernel_rfl) (by kernel_rfl) (by kernel_rfl) (fun _ _ _ h => h) (Or.inl ⟨by rfl, by intro w hSw; have q := HKK.out; have q2 := HWK.out; go_simp⟩) hHeld ?_
    try simp only [Act.put, List.setIfInBounds_toArray, List.set_cons_zero, List.set_cons_succ, List.getElem_toArray, List.getElem_cons_zero, List.getElem_cons_succ]
    refine wpAnyH_ready (rs := [13]) (by kernel_rfl) (by simp) ?_
    refine AllReadyH.cons rfl (fun K hK => ?_) (AllReadyH.nil)
    go_simp
    refine (kpicked_any pick (k : Int) (by omega) (by omega) _).mono ?_
    rintro _ wx ⟨rfl, hwx⟩
    rw [hwx, HP.out]
    clear hwx wx
    refine hK.out _ _ (hHeld) (fun hHeld => ?_)
    clear hK K
    try simp only [Act.put, List.setIfInBounds_toArray, List.set_cons_zero, List.set_cons_succ, List.getElem_toArray, List.getElem_cons_zero, List.getElem_cons_succ]
    refine wpAnyH_take (i := 14) (v := .int .i64 (t : Int)) rfl (by kernel_rfl) (by kernel_rfl) (by kernel_rfl) (fun _ _ _ h => h) (Or.inl ⟨by rfl, by intro w hSw; have q := HT.out; have q2 := HWT.out; go_simp⟩) hHeld ?_
    try simp only [Act.put, List.setIfInBounds_toArray, List.set_cons_zero, List.set_cons_succ, List.getElem_toArray, List.getElem_cons_zero, List.getElem_cons_succ]
    refine wpAnyH_ready (rs := [15]) (by kernel_rfl) (by simp) ?_
    refine AllReadyH.cons rfl (fun K hK => ?_) (AllReadyH.nil)
    go_simp
    refine (kCut_any d r _ (t : Int) _ HD.out).mono ?_
    rintro _ w2 ⟨rfl, hD2, ho2⟩
    have HD2 := hid hD2
    have Ho2 := hid (Only.trans hHeld ho2)
    clear hD2 ho2 hHeld
    refine hK.out _ _ (Ho2.out) (fun hHeld => ?_)
    clear hK K
    try simp only [Act.put, List.setIfInBounds_toArray, List.set_cons_zero, List.set_cons_succ, List.getElem_toArray, List.getElem_cons_zero, List.getElem_cons_succ]
    refine wpAnyH_done (by kernel_rfl) ?_ _
    go_wp2_with fail
    go_end0
    exact ⟨rfl, HF.out _ HD2.out, Ho2.out⟩
end Go.Proofs.Ytifdoneffnfogaa

/- A disk of a law's own: Crash, Synced. -/
namespace Go.Proofs.Ytifdoneffnfogaa
open Go.RowKit
set_option linter.unusedSimpArgs false
set_option linter.unusedVariables false

section
variable {L : Nat} {w w1 w2 : World} {d r : Nat} {s s' : Dk}
theorem kCrash_at (h : KD L w w1 d r s) (p : Int) (s' : Dk) (he : s.crash p = s') :
    Calls Try.prog 21 #[.pointer (some ⟨d, 0, none⟩), .int .i64 p] w1 fun e w' => e = .returned (.tuple #[]) ∧ KD L w w' d r s' ∧ Only w1 w' d r := by
  refine (kCrash_any d r s p w1 h.dk).mono ?_
  rintro e w' ⟨h1, h2, h3⟩
  rw [he] at h2
  exact ⟨h1, h.only h2 h3, h3⟩
end
end Go.Proofs.Ytifdoneffnfogaa
