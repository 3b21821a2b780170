/- The contract of Mac: the sign of all parts, one behind the other. -/
import Derived.Test.YtinifnpajkldbaaDoorPk6
import Derived.Test.YtinifnpajkldbaaDoorPk12
import Derived.Test.YtinifnpajkldbaaDoorHasV
namespace Go.Proofs.YtinifnpajkldbaaDoor
open Go.RowKit
set_option linter.unusedSimpArgs false
set_option linter.unusedVariables false

/-- What Mac holds on the way: the place of its result, the key's block. -/
structure M2 (w wN : World) (L Lk : Nat) (fs : List Value) : Prop where
  b : Below w.heap.size w wN
  r : Blk wN 26 L (B (List.replicate 32 0))
  k : Blk wN 120 Lk fs
  lw : w.heap.size ≤ L
theorem M2.later {w wN wM : World} {L Lk : Nat} {fs : List Value} (h : M2 w wN L Lk fs) (hb : Below wN.heap.size wN wM) : M2 w wM L Lk fs := ⟨below_seq h.b hb, h.r.later hb, h.k.later hb, h.lw⟩
theorem M2.store {w wN : World} {L Lk : Nat} {fs : List Value} (h : M2 w wN L Lk fs) {g : Nat} (h1 : L < g) (h2 : Lk ≠ g) (vs : List Value) : M2 w (wN.setCells g 0 vs) L Lk fs :=
  ⟨below_setCells (by have := h.lw; omega) _ _ h.b, h.r.kept (setCells_heap (by omega) _ _ _), h.k.kept (setCells_heap h2 _ _ _), h.lw⟩
/-- A block is written over whole. -/
theorem Blk.over {w : World} {t : TypeId} {g : Nat} {old vs : List Value} (hl : old.length = vs.length) (h : Blk w t g old) : Blk (w.setCells g 0 vs) t g vs := by
  have := Blk.setCells (t := t) (g := g) vs [] old [] (w := w) (o := 0) (by rw [List.nil_append, List.append_nil]; exact h) hl rfl
  rw [List.nil_append, List.append_nil] at this
  exact this
theorem Blk.whole {w : World} {t : TypeId} {g n : Nat} {l : List UInt8} (h : Blk w t g (B l)) (hn : l.length = n) : Reads w (.slice (some ⟨g, 0, none⟩) n n) (B l) := by
  have h := Blk.reads h n n (by omega) (Nat.le_refl _)
  rw [List.take_of_length_le (by omega)] at h
  exact h

set_option maxRecDepth 100000 in
set_option maxHeartbeats 8000000 in
theorem Mac_any (key : List UInt8) (ao : Option Addr) (n cap : Nat) (hn : key.length = n) (pa : Option Addr) (pn pc : Nat) (ls : List (List UInt8)) (hpn : ls.length = pn) (w : World) (ht : Tabs w) (hr : Reads w (.slice ao n cap) (B key)) (hcap : cap ≤ maxLen) (hb : n ≤ 100000)
    (hp : Parts w (.slice pa pn pc) ls) (hpb : pn ≤ 1000) (htot : ls.flatten.length ≤ 100000) :
    Calls Tryd.prog 61 #[.slice ao n cap, .slice pa pn pc] w fun e w' => e = .returned (.agg (B (macS key ls.flatten)).toArray) ∧ Below w.heap.size w w' := by
  obtain ⟨i0, hi0, hz0, hz1, hz2⟩ := info_parts Tryd.infoBytes
  have HR := hid hr
  have HT := hid ht
  have HN := hid hn
  have HCap := hid hcap
  have HP := hid hp
  have HPn := hid hpn
  have HTot := hid htot
  have h2 := ht.two
  obtain ⟨L, hL⟩ : ∃ L, w.heap.size = L := ⟨_, rfl⟩
  obtain ⟨kf, hkf⟩ : ∃ kf, fitS key = kf := ⟨_, rfl⟩
  have hkl : kf.length = 64 := by rw [← hkf, fitS_len]
  obtain ⟨fs, hfs⟩ : ∃ fs, B kf = fs := ⟨_, rfl⟩
  have hfl : fs.length = 64 := by rw [← hfs, B_length, hkl]
  have HFo := hid (show ∀ v ∈ fs, v.oneCell' = true by rw [← hfs]; exact B_one _)
  have HFi := hid (show (Tryd.prog.info? 120).map (·.size) = some fs.length by rw [hfl]; kernel_rfl)
  obtain ⟨ol, hol⟩ : ∃ ol, maskS 92 kf = ol := ⟨_, rfl⟩
  obtain ⟨il, hil⟩ : ∃ il, maskS 54 kf = il := ⟨_, rfl⟩
  have holl : ol.length = 64 := by rw [← hol, maskS_len, hkl]
  have hill : il.length = 64 := by rw [← hil, maskS_len, hkl]
  obtain ⟨os, hos⟩ : ∃ os, B ol = os := ⟨_, rfl⟩
  obtain ⟨is, his⟩ : ∃ is, B il = is := ⟨_, rfl⟩
  have hosl : os.length = 64 := by rw [← hos, B_length, holl]
  have hisl : is.length = 64 := by rw [← his, B_length, hill]
  have Hoso := hid (show ∀ v ∈ os, v.oneCell' = true by rw [← hos]; exact B_one _)
  have Hiso := hid (show ∀ v ∈ is, v.oneCell' = true by rw [← his]; exact B_one _)
  have Hosi := hid (show (Tryd.prog.info? 120).map (·.size) = some os.length by rw [hosl]; kernel_rfl)
  have Hisi := hid (show (Tryd.prog.info? 120).map (·.size) = some is.length by rw [hisl]; kernel_rfl)
  have HC := hid (show ∀ w : World, Calls Tryd.prog 79 #[.agg fs.toArray, .int .u8 92] w fun e w' => e = .returned (.agg os.toArray) ∧ Below w.heap.size w w' by
    intro w
    have h := masked_any kf hkl 92 92 rfl w
    rw [hfs, hol, hos] at h
    exact h)
  have HD := hid (show ∀ w : World, Calls Tryd.prog 79 #[.agg fs.toArray, .int .u8 54] w fun e w' => e = .returned (.agg is.toArray) ∧ Below w.heap.size w w' by
    intro w
    have h := masked_any kf hkl 54 54 rfl w
    rw [hfs, hil, his] at h
    exact h)
  have Hosl := hid hosl
  have Hisl := hid hisl
  have HOS := hid hos
  have HIS := hid his
  have HOL := hid holl
  have HIL := hid hill
  have HMac := hid (show macS key ls.flatten = shaS (ol ++ shaS (il ++ ls.flatten)) by rw [macS, hkf, hol, hil])
  have HKF := hid (show B (fitS key) = fs by rw [hkf]; exact hfs)
  have HFL := hid hfl
  clear hr ht hn hcap hp hpn htot hkf hkl hfs hfl hol hil holl hill hos his hosl hisl
  go_enter Tryd.func61, Tryd.ntmps61
  go_wp2_with (show wpList _ _ _ (⟨some 4, Op.alloc _, _, _, _, _⟩ :: _) _ _; go_must (refine wpList_alloc_blk rfl 26 rfl _ zeroHash L hL ?_); intro w1 hB1 hb1 hs1; replace hB1 := hid hB1; replace hb1 := hid hb1)
  have Hb1 := hid (show Below w.heap.size w w1 by rw [hL]; exact hb1.out)
  refine (fit_any key ao n cap HN.out w1 (HT.out.below Hb1.out h2) (HR.out.later Hb1.out) HCap.out hb).mono ?_
  rintro _ w2 ⟨rfl, hb2⟩
  rw [HKF.out]
  have Hb2 := hid (below_seq Hb1.out hb2)
  have HB2 := hid (hB1.out.later hb2)
  clear hb2 hB1 hb1 Hb1 hs1
  obtain ⟨Lk, hLk⟩ : ∃ Lk, w2.heap.size = Lk := ⟨_, rfl⟩
  have hLLk : L < Lk := by rw [← hLk]; exact HB2.out.lt
  go_wp2_with (first
    | (show wpList _ _ _ (⟨some 5, Op.alloc _, _, _, _, _⟩ :: _) _ _; go_must (refine wpList_alloc_blk rfl 120 rfl _ zeroBlk Lk hLk ?_); intro w3 hB3 hb3 hs3; replace hB3 := hid hB3; replace hb3 := hid hb3; have ht3 := hid (hB3.out.there (o := 0) (n := fs.length) (by rw [B_length, List.length_replicate, HFL.out]; omega)))
    | (show wpList _ _ _ (⟨none, Op.store _ _ _, _, _, _, _⟩ :: _) _ _; go_must (refine wpList_store_list rfl 120 _ _ rfl Lk 0 fs rfl rfl ht3.out HFi.out HFo.out ?_); intro w4 hw4; replace hw4 := hid hw4))
  have HM := hid (show M2 w w4.drew L Lk fs by
    rw [hw4.out]
    have hB := Blk.over (by rw [B_length, List.length_replicate, HFL.out]) hB3.out (vs := fs)
    exact ⟨(below_setCells (by omega) _ _ (Hb2.out.trans (hb3.out.mono (by omega)))).drew, (HB2.out.kept (hb3.out.block L (by omega))).kept (setCells_heap (by omega) _ _ _), hB, by omega⟩)
  have hz4 : Lk < w4.drew.heap.size := HM.out.k.lt
  clear hw4 ht3 hB3 hb3 hs3 HB2 Hb2
  refine wp_mono (Q := Exit.then (fun a' w' => ∃ x6 x7, a' = ⟨#[.slice ao n cap, .slice pa pn pc, undef, undef, .pointer (some ⟨L, 0, none⟩), .pointer (some ⟨Lk, 0, none⟩), .pointer (some ⟨x6, 0, none⟩), .pointer (some ⟨x7, 0, none⟩), undef, undef, .slice ao n cap, .agg fs.toArray, .agg fs.toArray, .agg os.toArray, .agg fs.toArray, .agg is.toArray, undef, undef, undef, undef, undef, undef, undef, undef, undef, undef], []⟩ ∧ L < x6 ∧ L < x7 ∧ Blk w' 120 x6 os ∧ Blk w' 120 x7 is ∧ M2 w w' L Lk fs) (fun _ _ _ => False)) ?reg ?rest
  case reg =>
    refine wp_region_held_drew (S := fun w' => Blk w' 120 Lk fs) (by kernel_rfl) (HM.out.k) (fun hHeld => ?_)
    refine wpAnyH_take (i := 0) (v := _) rfl (by kernel_rfl) (by kernel_rfl) (by kernel_rfl) (fun _ _ _ h => h) (yieldsIf_load_mid (by rfl) _ _ rfl _ _ rfl fs _ (fun w hSw => hSw.range fun j v hv => by rw [Nat.zero_add]; exact hv) Tryd.underlying120 rfl HFi.out) hHeld ?_
    try simp only [Act.put, List.setIfInBounds_toArray, List.set_cons_zero, List.set_cons_succ, List.getElem_toArray, List.getElem_cons_zero, List.getElem_cons_succ]
    refine wpAnyH_take (i := 2) (v := _) rfl (by kernel_rfl) (by kernel_rfl) (by kernel_rfl) (fun _ _ _ h => h) (yieldsIf_load_mid (by rfl) _ _ rfl _ _ rfl fs _ (fun w hSw => hSw.range fun j v hv => by rw [Nat.zero_add]; exact hv) Tryd.underlying120 rfl HFi.out) hHeld ?_
    try simp only [Act.put, List.setIfInBounds_toArray, List.set_cons_zero, List.set_cons_succ, List.getElem_toArray, List.getElem_cons_zero, List.getElem_cons_succ]
    refine wpAnyH_ready (rs := [1, 4, 5]) (by kernel_rfl) (by simp) ?_
    refine AllReadyH.cons rfl (fun K hK => ?_) (AllReadyH.cons rfl (fun K hK => ?_) (AllReadyH.cons rfl (fun K hK => ?_) AllReadyH.nil))
    · go_simp
      refine (HC.out _).mono ?_
      rintro _ v1 ⟨rfl, hb⟩
      have HM' := hid (HM.out.later hb)
      have hz := hb.size
      clear hb HM
      have HM := HM'
      clear HM'
      refine hK.out _ _ (HM.out.k) (fun hHeld => ?_)
      clear hK K
      try simp only [Act.put, List.setIfInBounds_toArray, List.set_cons_zero, List.set_cons_succ, List.getElem_toArray, List.getElem_cons_zero, List.getElem_cons_succ]
      refine wpAnyH_ready (rs := [3, 4, 5]) (by kernel_rfl) (by simp) ?_
      refine AllReadyH.cons rfl (fun K hK => ?_) (AllReadyH.cons rfl (fun K hK => ?_) (AllReadyH.cons rfl (fun K hK => ?_) AllReadyH.nil))
      · go_simp
        refine (HD.out _).mono ?_
        rintro _ v2 ⟨rfl, hb⟩
        have HM' := hid (HM.out.later hb)
        have hz := hb.size
        clear hb HM
        have HM := HM'
        clear HM'
        refine hK.out _ _ (HM.out.k) (fun hHeld => ?_)
        clear hK K
        try simp only [Act.put, List.setIfInBounds_toArray, List.set_cons_zero, List.set_cons_succ, List.getElem_toArray, List.getElem_cons_zero, List.getElem_cons_succ]
        refine wpAnyH_ready (rs := [4, 5]) (by kernel_rfl) (by simp) ?_
        refine AllReadyH.cons rfl (fun K hK => ?_) (AllReadyH.cons rfl (fun K hK => ?_) AllReadyH.nil)
        · obtain ⟨N4, hN4⟩ : ∃ N, v2.heap.size = N := ⟨_, rfl⟩
          refine Eq.mpr (if_pos (by rfl)) ?_
          refine wp_alloc_blk 120 rfl _ zeroBlk N4 hN4 ?_
          intro v3 hB hb hz
          have hb' : Below v2.heap.size v2 v3 := by rw [hN4]; exact hb
          have HM' := hid (HM.out.later hb')
          have hl4 : L < N4 := by have := HM.out.r.lt; omega
          have hne : True := trivial
          have hX' := hid hB
          clear hb hb' hB HM
          have HM := HM'
          clear HM'
          have hX := hX'
          clear hX'
          refine hK.out _ _ (HM.out.k) (fun hHeld => ?_)
          clear hK K
          try simp only [Act.put, List.setIfInBounds_toArray, List.set_cons_zero, List.set_cons_succ, List.getElem_toArray, List.getElem_cons_zero, List.getElem_cons_succ]
          refine wpAnyH_ready (rs := [5]) (by kernel_rfl) (by simp) ?_
          refine AllReadyH.cons rfl (fun K hK => ?_) AllReadyH.nil
          obtain ⟨N5, hN5⟩ : ∃ N, v3.heap.size = N := ⟨_, rfl⟩
          refine Eq.mpr (if_pos (by rfl)) ?_
          refine wp_alloc_blk 120 rfl _ zeroBlk N5 hN5 ?_
          intro v4 hB hb hz
          have hb' : Below v3.heap.size v3 v4 := by rw [hN5]; exact hb
          have HM' := hid (HM.out.later hb')
          have hl5 : L < N5 := by have := HM.out.r.lt; omega
          have hX' := hid (hX.out.later hb')
          have hne : N5 ≠ N4 := by have := hX.out.lt; omega
          have hY' := hid hB
          clear hb hb' hB HM hX
          have HM := HM'
          clear HM'
          have hX := hX'
          clear hX'
          have hY := hY'
          clear hY'
          refine hK.out _ _ (HM.out.k) (fun hHeld => ?_)
          clear hK K
          try simp only [Act.put, List.setIfInBounds_toArray, List.set_cons_zero, List.set_cons_succ, List.getElem_toArray, List.getElem_cons_zero, List.getElem_cons_succ]
          refine wpAnyH_ready (rs := [6]) (by kernel_rfl) (by simp) ?_
          refine AllReadyH.cons rfl (fun K hK => ?_) AllReadyH.nil
          refine Eq.mpr (if_pos (by rfl)) ?_
          refine wp_store_list 120 _ _ rfl N4 0 os rfl rfl (hX.out.there (by rw [B_length, List.length_replicate, Hosl.out]; omega)) Hosi.out Hoso.out ?_
          intro v5 hw
          have HM' := hid (show M2 w v5 L Lk fs by rw [hw]; exact HM.out.store (by omega) (by omega) _)
          have hX' := hid (show Blk v5 120 N4 os by rw [hw]; exact Blk.over (by rw [B_length, List.length_replicate, Hosl.out]) hX.out)
          have hY' := hid (show Blk v5 120 N5 (B (List.replicate 64 0)) by rw [hw]; exact hY.out.kept (setCells_heap (by omega) _ _ _))
          clear hw HM hX hY
          have HM := HM'
          clear HM'
          have hX := hX'
          clear hX'
          have hY := hY'
          clear hY'
          refine hK.out _ _ (HM.out.k) (fun hHeld => ?_)
          clear hK K
          try simp only [Act.put, List.setIfInBounds_toArray, List.set_cons_zero, List.set_cons_succ, List.getElem_toArray, List.getElem_cons_zero, List.getElem_cons_succ]
          refine wpAnyH_ready (rs := [7]) (by kernel_rfl) (by simp) ?_
          refine AllReadyH.cons rfl (fun K hK => ?_) AllReadyH.nil
          refine Eq.mpr (if_pos (by rfl)) ?_
          refine wp_store_list 120 _ _ rfl N5 0 is rfl rfl (hY.out.there (by rw [B_length, List.length_replicate, Hisl.out]; omega)) Hisi.out Hiso.out ?_
          intro v6 hw
          have HM' := hid (show M2 w v6 L Lk fs by rw [hw]; exact HM.out.store (by omega) (by omega) _)
          have hY' := hid (show Blk v6 120 N5 is by rw [hw]; exact Blk.over (by rw [B_length, List.length_replicate, Hisl.out]) hY.out)
          have hX' := hid (show Blk v6 120 N4 os by rw [hw]; exact hX.out.kept (setCells_heap (by omega) _ _ _))
          clear hw HM hX hY
          have HM := HM'
          clear HM'
          have hX := hX'
          clear hX'
          have hY := hY'
          clear hY'
          refine hK.out _ _ (HM.out.k) (fun hHeld => ?_)
          clear hK K
          try simp only [Act.put, List.setIfInBounds_toArray, List.set_cons_zero, List.set_cons_succ, List.getElem_toArray, List.getElem_cons_zero, List.getElem_cons_succ]
          refine wpAnyH_done (by kernel_rfl) ?_ _
          exact ⟨N4, N5, by kernel_rfl, by omega, by omega, hX.out, hY.out, HM.out⟩
        · obtain ⟨N5, hN5⟩ : ∃ N, v2.heap.size = N := ⟨_, rfl⟩
          refine Eq.mpr (if_pos (by rfl)) ?_
          refine wp_alloc_blk 120 rfl _ zeroBlk N5 hN5 ?_
          intro v3 hB hb hz
          have hb' : Below v2.heap.size v2 v3 := by rw [hN5]; exact hb
          have HM' := hid (HM.out.later hb')
          have hl5 : L < N5 := by have := HM.out.r.lt; omega
          have hne : True := trivial
          have hY' := hid hB
          clear hb hb' hB HM
          have HM := HM'
          clear HM'
          have hY := hY'
          clear hY'
          refine hK.out _ _ (HM.out.k) (fun hHeld => ?_)
          clear hK K
          try simp only [Act.put, List.setIfInBounds_toArray, List.set_cons_zero, List.set_cons_succ, List.getElem_toArray, List.getElem_cons_zero, List.getElem_cons_succ]
          refine wpAnyH_ready (rs := [4]) (by kernel_rfl) (by simp) ?_
          refine AllReadyH.cons rfl (fun K hK => ?_) AllReadyH.nil
          obtain ⟨N4, hN4⟩ : ∃ N, v3.heap.size = N := ⟨_, rfl⟩
          refine Eq.mpr (if_pos (by rfl)) ?_
          refine wp_alloc_blk 120 rfl _ zeroBlk N4 hN4 ?_
          intro v4 hB hb hz
          have hb' : Below v3.heap.size v3 v4 := by rw [hN4]; exact hb
          have HM' := hid (HM.out.later hb')
          have hl4 : L < N4 := by have := HM.out.r.lt; omega
          have hY' := hid (hY.out.later hb')
          have hne : N4 ≠ N5 := by have := hY.out.lt; omega
          have hX' := hid hB
          clear hb hb' hB HM hY
          have HM := HM'
          clear HM'
          have hX := hX'
          clear hX'
          have hY := hY'
          clear hY'
          refine hK.out _ _ (HM.out.k) (fun hHeld => ?_)
          clear hK K
          try simp only [Act.put, List.setIfInBounds_toArray, List.set_cons_zero, List.set_cons_succ, List.getElem_toArray, List.getElem_cons_zero, List.getElem_cons_succ]
          refine wpAnyH_ready (rs := [6]) (by kernel_rfl) (by simp) ?_
          refine AllReadyH.cons rfl (fun K hK => ?_) AllReadyH.nil
          refine Eq.mpr (if_pos (by rfl)) ?_
          refine wp_store_list 120 _ _ rfl N4 0 os rfl rfl (hX.out.there (by rw [B_length, List.length_replicate, Hosl.out]; omega)) Hosi.out Hoso.out ?_
          intro v5 hw
          have HM' := hid (show M2 w v5 L Lk fs by rw [hw]; exact HM.out.store (by omega) (by omega) _)
          have hX' := hid (show Blk v5 120 N4 os by rw [hw]; exact Blk.over (by rw [B_length, List.length_replicate, Hosl.out]) hX.out)
          have hY' := hid (show Blk v5 120 N5 (B (List.replicate 64 0)) by rw [hw]; exact hY.out.kept (setCells_heap (by omega) _ _ _))
          clear hw HM hX hY
          have HM := HM'
          clear HM'
          have hX := hX'
          clear hX'
          have hY := hY'
          clear hY'
          refine hK.out _ _ (HM.out.k) (fun hHeld => ?_)
          clear hK K
          try simp only [Act.put, List.setIfInBounds_toArray, List.set_cons_zero, List.set_cons_succ, List.getElem_toArray, List.getElem_cons_zero, List.getElem_cons_succ]
          refine wpAnyH_ready (rs := [7]) (by kernel_rfl) (by simp) ?_
          refine AllReadyH.cons rfl (fun K hK => ?_) AllReadyH.nil
          refine Eq.mpr (if_pos (by rfl)) ?_
          refine wp_store_list 120 _ _ rfl N5 0 is rfl rfl (hY.out.there (by rw [B_length, List.length_replicate, Hisl.out]; omega)) Hisi.out Hiso.out ?_
          intro v6 hw
          have HM' := hid (show M2 w v6 L Lk fs by rw [hw]; exact HM.out.store (by omega) (by omega) _)
          have hY' := hid (show Blk v6 120 N5 is by rw [hw]; exact Blk.over (by rw [B_length, List.length_replicate, Hisl.out]) hY.out)
          have hX' := hid (show Blk v6 120 N4 os by rw [hw]; exact hX.out.kept (setCells_heap (by omega) _ _ _))
          clear hw HM hX hY
          have HM := HM'
          clear HM'
          have hX := hX'
          clear hX'
          have hY := hY'
          clear hY'
          refine hK.out _ _ (HM.out.k) (fun hHeld => ?_)
          clear hK K
          try simp only [Act.put, List.setIfInBounds_toArray, List.set_cons_zero, List.set_cons_succ, List.getElem_toArray, List.getElem_cons_zero, List.getElem_cons_succ]
          refine wpAnyH_done (by kernel_rfl) ?_ _
          exact ⟨N4, N5, by kernel_rfl, by omega, by omega, hX.out, hY.out, HM.out⟩
      · obtain ⟨N4, hN4⟩ : ∃ N, v1.heap.size = N := ⟨_, rfl⟩
        refine Eq.mpr (if_pos (by rfl)) ?_
        refine wp_alloc_blk 120 rfl _ zeroBlk N4 hN4 ?_
        intro v2 hB hb hz
        have hb' : Below v1.heap.size v1 v2 := by rw [hN4]; exact hb
        have HM' := hid (HM.out.later hb')
        have hl4 : L < N4 := by have := HM.out.r.lt; omega
        have hne : True := trivial
        have hX' := hid hB
        clear hb hb' hB HM
        have HM := HM'
        clear HM'
        have hX := hX'
        clear hX'
        refine hK.out _ _ (HM.out.k) (fun hHeld => ?_)
        clear hK K
        try simp only [Act.put, List.setIfInBounds_toArray, List.set_cons_zero, List.set_cons_succ, List.getElem_toArray, List.getElem_cons_zero, List.getElem_cons_succ]
        refine wpAnyH_ready (rs := [3, 5]) (by kernel_rfl) (by simp) ?_
        refine AllReadyH.cons rfl (fun K hK => ?_) (AllReadyH.cons rfl (fun K hK => ?_) AllReadyH.nil)
        · go_simp
          refine (HD.out _).mono ?_
          rintro _ v3 ⟨rfl, hb⟩
          have HM' := hid (HM.out.later hb)
          have hz := hb.size
          have hX' := hid (hX.out.later hb)
          clear hb HM hX
          have HM := HM'
          clear HM'
          have hX := hX'
          clear hX'
          refine hK.out _ _ (HM.out.k) (fun hHeld => ?_)
          clear hK K
          try simp only [Act.put, List.setIfInBounds_toArray, List.set_cons_zero, List.set_cons_succ, List.getElem_toArray, List.getElem_cons_zero, List.getElem_cons_succ]
          refine wpAnyH_ready (rs := [5]) (by kernel_rfl) (by simp) ?_
          refine AllReadyH.cons rfl (fun K hK => ?_) AllReadyH.nil
          obtain ⟨N5, hN5⟩ : ∃ N, v3.heap.size = N := ⟨_, rfl⟩
          refine Eq.mpr (if_pos (by rfl)) ?_
          refine wp_alloc_blk 120 rfl _ zeroBlk N5 hN5 ?_
          intro v4 hB hb hz
          have hb' : Below v3.heap.size v3 v4 := by rw [hN5]; exact hb
          have HM' := hid (HM.out.later hb')
          have hl5 : L < N5 := by have := HM.out.r.lt; omega
          have hX' := hid (hX.out.later hb')
          have hne : N5 ≠ N4 := by have := hX.out.lt; omega
          have hY' := hid hB
          clear hb hb' hB HM hX
          have HM := HM'
          clear HM'
          have hX := hX'
          clear hX'
          have hY := hY'
          clear hY'
          refine hK.out _ _ (HM.out.k) (fun hHeld => ?_)
          clear hK K
          try simp only [Act.put, List.setIfInBounds_toArray, List.set_cons_zero, List.set_cons_succ, List.getElem_toArray, List.getElem_cons_zero, List.getElem_cons_succ]
          refine wpAnyH_ready (rs := [6]) (by kernel_rfl) (by simp) ?_
          refine AllReadyH.cons rfl (fun K hK => ?_) AllReadyH.nil
          refine Eq.mpr (if_pos (by rfl)) ?_
          refine wp_store_list 120 _ _ rfl N4 0 os rfl rfl (hX.out.there (by rw [B_length, List.length_replicate, Hosl.out]; omega)) Hosi.out Hoso.out ?_
          intro v5 hw
          have HM' := hid (show M2 w v5 L Lk fs by rw [hw]; exact HM.out.store (by omega) (by omega) _)
          have hX' := hid (show Blk v5 120 N4 os by rw [hw]; exact Blk.over (by rw [B_length, List.length_replicate, Hosl.out]) hX.out)
          have hY' := hid (show Blk v5 120 N5 (B (List.replicate 64 0)) by rw [hw]; exact hY.out.kept (setCells_heap (by omega) _ _ _))
          clear hw HM hX hY
          have HM := HM'
          clear HM'
          have hX := hX'
          clear hX'
          have hY := hY'
          clear hY'
          refine hK.out _ _ (HM.out.k) (fun hHeld => ?_)
          clear hK K
          try simp only [Act.put, List.setIfInBounds_toArray, List.set_cons_zero, List.set_cons_succ, List.getElem_toArray, List.getElem_cons_zero, List.getElem_cons_succ]
          refine wpAnyH_ready (rs := [7]) (by kernel_rfl) (by simp) ?_
          refine AllReadyH.cons rfl (fun K hK => ?_) AllReadyH.nil
          refine Eq.mpr (if_pos (by rfl)) ?_
          refine wp_store_list 120 _ _ rfl N5 0 is rfl rfl (hY.out.there (by rw [B_length, List.length_replicate, Hisl.out]; omega)) Hisi.out Hiso.out ?_
          intro v6 hw
          have HM' := hid (show M2 w v6 L Lk fs by rw [hw]; exact HM.out.store (by omega) (by omega) _)
          have hY' := hid (show Blk v6 120 N5 is by rw [hw]; exact Blk.over (by rw [B_length, List.length_replicate, Hisl.out]) hY.out)
          have hX' := hid (show Blk v6 120 N4 os by rw [hw]; exact hX.out.kept (setCells_heap (by omega) _ _ _))
          clear hw HM hX hY
          have HM := HM'
          clear HM'
          have hX := hX'
          clear hX'
          have hY := hY'
          clear hY'
          refine hK.out _ _ (HM.out.k) (fun hHeld => ?_)
          clear hK K
          try simp only [Act.put, List.setIfInBounds_toArray, List.set_cons_zero, List.set_cons_succ, List.getElem_toArray, List.getElem_cons_zero, List.getElem_cons_succ]
          refine wpAnyH_done (by kernel_rfl) ?_ _
          exact ⟨N4, N5, by kernel_rfl, by omega, by omega, hX.out, hY.out, HM.out⟩
        · obtain ⟨N5, hN5⟩ : ∃ N, v2.heap.size = N := ⟨_, rfl⟩
          refine Eq.mpr (if_pos (by rfl)) ?_
          refine wp_alloc_blk 120 rfl _ zeroBlk N5 hN5 ?_
          intro v3 hB hb hz
          have hb' : Below v2.heap.size v2 v3 := by rw [hN5]; exact hb
          have HM' := hid (HM.out.later hb')
          have hl5 : L < N5 := by have := HM.out.r.lt; omega
          have hX' := hid (hX.out.later hb')
          have hne : N5 ≠ N4 := by have := hX.out.lt; omega
          have hY' := hid hB
          clear hb hb' hB HM hX
          have HM := HM'
          clear HM'
          have hX := hX'
          clear hX'
          have hY := hY'
          clear hY'
          refine hK.out _ _ (HM.out.k) (fun hHeld => ?_)
          clear hK K
          try simp only [Act.put, List.setIfInBounds_toArray, List.set_cons_zero, List.set_cons_succ, List.getElem_toArray, List.getElem_cons_zero, List.getElem_cons_succ]
          refine wpAnyH_ready (rs := [3]) (by kernel_rfl) (by simp) ?_
          refine AllReadyH.cons rfl (fun K hK => ?_) AllReadyH.nil
          go_simp
          refine (HD.out _).mono ?_
          rintro _ v4 ⟨rfl, hb⟩
          have HM' := hid (HM.out.later hb)
          have hz := hb.size
          have hX' := hid (hX.out.later hb)
          have hY' := hid (hY.out.later hb)
          clear hb HM hX hY
          have HM := HM'
          clear HM'
          have hX := hX'
          clear hX'
          have hY := hY'
          clear hY'
          refine hK.out _ _ (HM.out.k) (fun hHeld => ?_)
          clear hK K
          try simp only [Act.put, List.setIfInBounds_toArray, List.set_cons_zero, List.set_cons_succ, List.getElem_toArray, List.getElem_cons_zero, List.getElem_cons_succ]
          refine wpAnyH_ready (rs := [6]) (by kernel_rfl) (by simp) ?_
          refine AllReadyH.cons rfl (fun K hK => ?_) AllReadyH.nil
          refine Eq.mpr (if_pos (by rfl)) ?_
          refine wp_store_list 120 _ _ rfl N4 0 os rfl rfl (hX.out.there (by rw [B_length, List.length_replicate, Hosl.out]; omega)) Hosi.out Hoso.out ?_
          intro v5 hw
          have HM' := hid (show M2 w v5 L Lk fs by rw [hw]; exact HM.out.store (by omega) (by omega) _)
          have hX' := hid (show Blk v5 120 N4 os by rw [hw]; exact Blk.over (by rw [B_length, List.length_replicate, Hosl.out]) hX.out)
          have hY' := hid (show Blk v5 120 N5 (B (List.replicate 64 0)) by rw [hw]; exact hY.out.kept (setCells_heap (by omega) _ _ _))
          clear hw HM hX hY
          have HM := HM'
          clear HM'
          have hX := hX'
          clear hX'
          have hY := hY'
          clear hY'
          refine hK.out _ _ (HM.out.k) (fun hHeld => ?_)
          clear hK K
          try simp only [Act.put, List.setIfInBounds_toArray, List.set_cons_zero, List.set_cons_succ, List.getElem_toArray, List.getElem_cons_zero, List.getElem_cons_succ]
          refine wpAnyH_ready (rs := [7]) (by kernel_rfl) (by simp) ?_
          refine AllReadyH.cons rfl (fun K hK => ?_) AllReadyH.nil
          refine Eq.mpr (if_pos (by rfl)) ?_
          refine wp_store_list 120 _ _ rfl N5 0 is rfl rfl (hY.out.there (by rw [B_length, List.length_replicate, Hisl.out]; omega)) Hisi.out Hiso.out ?_
          intro v6 hw
          have HM' := hid (show M2 w v6 L Lk fs by rw [hw]; exact HM.out.store (by omega) (by omega) _)
          have hY' := hid (show Blk v6 120 N5 is by rw [hw]; exact Blk.over (by rw [B_length, List.length_replicate, Hisl.out]) hY.out)
          have hX' := hid (show Blk v6 120 N4 os by rw [hw]; exact hX.out.kept (setCells_heap (by omega) _ _ _))
          clear hw HM hX hY
          have HM := HM'
          clear HM'
          have hX := hX'
          clear hX'
          have hY := hY'
          clear hY'
          refine hK.out _ _ (HM.out.k) (fun hHeld => ?_)
          clear hK K
          try simp only [Act.put, List.setIfInBounds_toArray, List.set_cons_zero, List.set_cons_succ, List.getElem_toArray, List.getElem_cons_zero, List.getElem_cons_succ]
          refine wpAnyH_done (by kernel_rfl) ?_ _
          exact ⟨N4, N5, by kernel_rfl, by omega, by omega, hX.out, hY.out, HM.out⟩
      · obtain ⟨N5, hN5⟩ : ∃ N, v1.heap.size = N := ⟨_, rfl⟩
        refine Eq.mpr (if_pos (by rfl)) ?_
        refine wp_alloc_blk 120 rfl _ zeroBlk N5 hN5 ?_
        intro v2 hB hb hz
        have hb' : Below v1.heap.size v1 v2 := by rw [hN5]; exact hb
        have HM' := hid (HM.out.later hb')
        have hl5 : L < N5 := by have := HM.out.r.lt; omega
        have hne : True := trivial
        have hY' := hid hB
        clear hb hb' hB HM
        have HM := HM'
        clear HM'
        have hY := hY'
        clear hY'
        refine hK.out _ _ (HM.out.k) (fun hHeld => ?_)
        clear hK K
        try simp only [Act.put, List.setIfInBounds_toArray, List.set_cons_zero, List.set_cons_succ, List.getElem_toArray, List.getElem_cons_zero, List.getElem_cons_succ]
        refine wpAnyH_ready (rs := [3, 4]) (by kernel_rfl) (by simp) ?_
        refine AllReadyH.cons rfl (fun K hK => ?_) (AllReadyH.cons rfl (fun K hK => ?_) AllReadyH.nil)
        · go_simp
          refine (HD.out _).mono ?_
          rintro _ v3 ⟨rfl, hb⟩
          have HM' := hid (HM.out.later hb)
          have hz := hb.size
          have hY' := hid (hY.out.later hb)
          clear hb HM hY
          have HM := HM'
          clear HM'
          have hY := hY'
          clear hY'
          refine hK.out _ _ (HM.out.k) (fun hHeld => ?_)
          clear hK K
          try simp only [Act.put, List.setIfInBounds_toArray, List.set_cons_zero, List.set_cons_succ, List.getElem_toArray, List.getElem_cons_zero, List.getElem_cons_succ]
          refine wpAnyH_ready (rs := [4]) (by kernel_rfl) (by simp) ?_
          refine AllReadyH.cons rfl (fun K hK => ?_) AllReadyH.nil
          obtain ⟨N4, hN4⟩ : ∃ N, v3.heap.size = N := ⟨_, rfl⟩
          refine Eq.mpr (if_pos (by rfl)) ?_
          refine wp_alloc_blk 120 rfl _ zeroBlk N4 hN4 ?_
          intro v4 hB hb hz
          have hb' : Below v3.heap.size v3 v4 := by rw [hN4]; exact hb
          have HM' := hid (HM.out.later hb')
          have hl4 : L < N4 := by have := HM.out.r.lt; omega
          have hY' := hid (hY.out.later hb')
          have hne : N4 ≠ N5 := by have := hY.out.lt; omega
          have hX' := hid hB
          clear hb hb' hB HM hY
          have HM := HM'
          clear HM'
          have hX := hX'
          clear hX'
          have hY := hY'
          clear hY'
          refine hK.out _ _ (HM.out.k) (fun hHeld => ?_)
          clear hK K
          try simp only [Act.put, List.setIfInBounds_toArray, List.set_cons_zero, List.set_cons_succ, List.getElem_toArray, List.getElem_cons_zero, List.getElem_cons_succ]
          refine wpAnyH_ready (rs := [6]) (by kernel_rfl) (by simp) ?_
          refine AllReadyH.cons rfl (fun K hK => ?_) AllReadyH.nil
          refine Eq.mpr (if_pos (by rfl)) ?_
          refine wp_store_list 120 _ _ rfl N4 0 os rfl rfl (hX.out.there (by rw [B_length, List.length_replicate, Hosl.out]; omega)) Hosi.out Hoso.out ?_
          intro v5 hw
          have HM' := hid (show M2 w v5 L Lk fs by rw [hw]; exact HM.out.store (by omega) (by omega) _)
          have hX' := hid (show Blk v5 120 N4 os by rw [hw]; exact Blk.over (by rw [B_length, List.length_replicate, Hosl.out]) hX.out)
          have hY' := hid (show Blk v5 120 N5 (B (List.replicate 64 0)) by rw [hw]; exact hY.out.kept (setCells_heap (by omega) _ _ _))
          clear hw HM hX hY
          have HM := HM'
          clear HM'
          have hX := hX'
          clear hX'
          have hY := hY'
          clear hY'
          refine hK.out _ _ (HM.out.k) (fun hHeld => ?_)
          clear hK K
          try simp only [Act.put, List.setIfInBounds_toArray, List.set_cons_zero, List.set_cons_succ, List.getElem_toArray, List.getElem_cons_zero, List.getElem_cons_succ]
          refine wpAnyH_ready (rs := [7]) (by kernel_rfl) (by simp) ?_
          refine AllReadyH.cons rfl (fun K hK => ?_) AllReadyH.nil
          refine Eq.mpr (if_pos (by rfl)) ?_
          refine wp_store_list 120 _ _ rfl N5 0 is rfl rfl (hY.out.there (by rw [B_length, List.length_replicate, Hisl.out]; omega)) Hisi.out Hiso.out ?_
          intro v6 hw
          have HM' := hid (show M2 w v6 L Lk fs by rw [hw]; exact HM.out.store (by omega) (by omega) _)
          have hY' := hid (show Blk v6 120 N5 is by rw [hw]; exact Blk.over (by rw [B_length, List.length_replicate, Hisl.out]) hY.out)
          have hX' := hid (show Blk v6 120 N4 os by rw [hw]; exact hX.out.kept (setCells_heap (by omega) _ _ _))
          clear hw HM hX hY
          have HM := HM'
          clear HM'
          have hX := hX'
          clear hX'
          have hY := hY'
          clear hY'
          refine hK.out _ _ (HM.out.k) (fun hHeld => ?_)
          clear hK K
          try simp only [Act.put, List.setIfInBounds_toArray, List.set_cons_zero, List.set_cons_succ, List.getElem_toArray, List.getElem_cons_zero, List.getElem_cons_succ]
          refine wpAnyH_done (by kernel_rfl) ?_ _
          exact ⟨N4, N5, by kernel_rfl, by omega, by omega, hX.out, hY.out, HM.out⟩
        · obtain ⟨N4, hN4⟩ : ∃ N, v2.heap.size = N := ⟨_, rfl⟩
          refine Eq.mpr (if_pos (by rfl)) ?_
          refine wp_alloc_blk 120 rfl _ zeroBlk N4 hN4 ?_
          intro v3 hB hb hz
          have hb' : Below v2.heap.size v2 v3 := by rw [hN4]; exact hb
          have HM' := hid (HM.out.later hb')
          have hl4 : L < N4 := by have := HM.out.r.lt; omega
          have hY' := hid (hY.out.later hb')
          have hne : N4 ≠ N5 := by have := hY.out.lt; omega
          have hX' := hid hB
          clear hb hb' hB HM hY
          have HM := HM'
          clear HM'
          have hX := hX'
          clear hX'
          have hY := hY'
          clear hY'
          refine hK.out _ _ (HM.out.k) (fun hHeld => ?_)
          clear hK K
          try simp only [Act.put, List.setIfInBounds_toArray, List.set_cons_zero, List.set_cons_succ, List.getElem_toArray, List.getElem_cons_zero, List.getElem_cons_succ]
          refine wpAnyH_ready (rs := [3]) (by kernel_rfl) (by simp) ?_
          refine AllReadyH.cons rfl (fun K hK => ?_) AllReadyH.nil
          go_simp
          refine (HD.out _).mono ?_
          rintro _ v4 ⟨rfl, hb⟩
          have HM' := hid (HM.out.later hb)
          have hz := hb.size
          have hX' := hid (hX.out.later hb)
          have hY' := hid (hY.out.later hb)
          clear hb HM hX hY
          have HM := HM'
          clear HM'
          have hX := hX'
          clear hX'
          have hY := hY'
          clear hY'
          refine hK.out _ _ (HM.out.k) (fun hHeld => ?_)
          clear hK K
          try simp only [Act.put, List.setIfInBounds_toArray, List.set_cons_zero, List.set_cons_succ, List.getElem_toArray, List.getElem_cons_zero, List.getElem_cons_succ]
          refine wpAnyH_ready (rs := [6]) (by kernel_rfl) (by simp) ?_
          refine AllReadyH.cons rfl (fun K hK => ?_) AllReadyH.nil
          refine Eq.mpr (if_pos (by rfl)) ?_
          refine wp_store_list 120 _ _ rfl N4 0 os rfl rfl (hX.out.there (by rw [B_length, List.length_replicate, Hosl.out]; omega)) Hosi.out Hoso.out ?_
          intro v5 hw
          have HM' := hid (show M2 w v5 L Lk fs by rw [hw]; exact HM.out.store (by omega) (by omega) _)
          have hX' := hid (show Blk v5 120 N4 os by rw [hw]; exact Blk.over (by rw [B_length, List.length_replicate, Hosl.out]) hX.out)
          have hY' := hid (show Blk v5 120 N5 (B (List.replicate 64 0)) by rw [hw]; exact hY.out.kept (setCells_heap (by omega) _ _ _))
          clear hw HM hX hY
          have HM := HM'
          clear HM'
          have hX := hX'
          clear hX'
          have hY := hY'
          clear hY'
          refine hK.out _ _ (HM.out.k) (fun hHeld => ?_)
          clear hK K
          try simp only [Act.put, List.setIfInBounds_toArray, List.set_cons_zero, List.set_cons_succ, List.getElem_toArray, List.getElem_cons_zero, List.getElem_cons_succ]
          refine wpAnyH_ready (rs := [7]) (by kernel_rfl) (by simp) ?_
          refine AllReadyH.cons rfl (fun K hK => ?_) AllReadyH.nil
          refine Eq.mpr (if_pos (by rfl)) ?_
          refine wp_store_list 120 _ _ rfl N5 0 is rfl rfl (hY.out.there (by rw [B_length, List.length_replicate, Hisl.out]; omega)) Hisi.out Hiso.out ?_
          intro v6 hw
          have HM' := hid (show M2 w v6 L Lk fs by rw [hw]; exact HM.out.store (by omega) (by omega) _)
          have hY' := hid (show Blk v6 120 N5 is by rw [hw]; exact Blk.over (by rw [B_length, List.length_replicate, Hisl.out]) hY.out)
          have hX' := hid (show Blk v6 120 N4 os by rw [hw]; exact hX.out.kept (setCells_heap (by omega) _ _ _))
          clear hw HM hX hY
          have HM := HM'
          clear HM'
          have hX := hX'
          clear hX'
          have hY := hY'
          clear hY'
          refine hK.out _ _ (HM.out.k) (fun hHeld => ?_)
          clear hK K
          try simp only [Act.put, List.setIfInBounds_toArray, List.set_cons_zero, List.set_cons_succ, List.getElem_toArray, List.getElem_cons_zero, List.getElem_cons_succ]
          refine wpAnyH_done (by kernel_rfl) ?_ _
          exact ⟨N4, N5, by kernel_rfl, by omega, by omega, hX.out, hY.out, HM.out⟩
    · obtain ⟨N4, hN4⟩ : ∃ N, w4.drew.heap.size = N := ⟨_, rfl⟩
      refine Eq.mpr (if_pos (by rfl)) ?_
      refine wp_alloc_blk 120 rfl _ zeroBlk N4 hN4 ?_
      intro v1 hB hb hz
      have hb' : Below w4.drew.heap.size w4.drew v1 := by rw [hN4]; exact hb
      have HM' := hid (HM.out.later hb')
      have hl4 : L < N4 := by have := HM.out.r.lt; omega
      have hne : True := trivial
      have hX' := hid hB
      clear hb hb' hB HM
      have HM := HM'
      clear HM'
      have hX := hX'
      clear hX'
      refine hK.out _ _ (HM.out.k) (fun hHeld => ?_)
      clear hK K
      try simp only [Act.put, List.setIfInBounds_toArray, List.set_cons_zero, List.set_cons_succ, List.getElem_toArray, List.getElem_cons_zero, List.getElem_cons_succ]
      refine wpAnyH_ready (rs := [1, 5]) (by kernel_rfl) (by simp) ?_
      refine AllReadyH.cons rfl (fun K hK => ?_) (AllReadyH.cons rfl (fun K hK => ?_) AllReadyH.nil)
      · go_simp
        refine (HC.out _).mono ?_
        rintro _ v2 ⟨rfl, hb⟩
        have HM' := hid (HM.out.later hb)
        have hz := hb.size
        have hX' := hid (hX.out.later hb)
        clear hb HM hX
        have HM := HM'
        clear HM'
        have hX := hX'
        clear hX'
        refine hK.out _ _ (HM.out.k) (fun hHeld => ?_)
        clear hK K
        try simp only [Act.put, List.setIfInBounds_toArray, List.set_cons_zero, List.set_cons_succ, List.getElem_toArray, List.getElem_cons_zero, List.getElem_cons_succ]
        refine wpAnyH_ready (rs := [3, 5]) (by kernel_rfl) (by simp) ?_
        refine AllReadyH.cons rfl (fun K hK => ?_) (AllReadyH.cons rfl (fun K hK => ?_) AllReadyH.nil)
        · go_simp
          refine (HD.out _).mono ?_
          rintro _ v3 ⟨rfl, hb⟩
          have HM' := hid (HM.out.later hb)
          have hz := hb.size
          have hX' := hid (hX.out.later hb)
          clear hb HM hX
          have HM := HM'
          clear HM'
          have hX := hX'
          clear hX'
          refine hK.out _ _ (HM.out.k) (fun hHeld => ?_)
          clear hK K
          try simp only [Act.put, List.setIfInBounds_toArray, List.set_cons_zero, List.set_cons_succ, List.getElem_toArray, List.getElem_cons_zero, List.getElem_cons_succ]
          refine wpAnyH_ready (rs := [5]) (by kernel_rfl) (by simp) ?_
          refine AllReadyH.cons rfl (fun K hK => ?_) AllReadyH.nil
          obtain ⟨N5, hN5⟩ : ∃ N, v3.heap.size = N := ⟨_, rfl⟩
          refine Eq.mpr (if_pos (by rfl)) ?_
          refine wp_alloc_blk 120 rfl _ zeroBlk N5 hN5 ?_
          intro v4 hB hb hz
          have hb' : Below v3.heap.size v3 v4 := by rw [hN5]; exact hb
          have HM' := hid (HM.out.later hb')
          have hl5 : L < N5 := by have := HM.out.r.lt; omega
          have hX' := hid (hX.out.later hb')
          have hne : N5 ≠ N4 := by have := hX.out.lt; omega
          have hY' := hid hB
          clear hb hb' hB HM hX
          have HM := HM'
          clear HM'
          have hX := hX'
          clear hX'
          have hY := hY'
          clear hY'
          refine hK.out _ _ (HM.out.k) (fun hHeld => ?_)
          clear hK K
          try simp only [Act.put, List.setIfInBounds_toArray, List.set_cons_zero, List.set_cons_succ, List.getElem_toArray, List.getElem_cons_zero, List.getElem_cons_succ]
          refine wpAnyH_ready (rs := [6]) (by kernel_rfl) (by simp) ?_
          refine AllReadyH.cons rfl (fun K hK => ?_) AllReadyH.nil
          refine Eq.mpr (if_pos (by rfl)) ?_
          refine wp_store_list 120 _ _ rfl N4 0 os rfl rfl (hX.out.there (by rw [B_length, List.length_replicate, Hosl.out]; omega)) Hosi.out Hoso.out ?_
          intro v5 hw
          have HM' := hid (show M2 w v5 L Lk fs by rw [hw]; exact HM.out.store (by omega) (by omega) _)
          have hX' := hid (show Blk v5 120 N4 os by rw [hw]; exact Blk.over (by rw [B_length, List.length_replicate, Hosl.out]) hX.out)
          have hY' := hid (show Blk v5 120 N5 (B (List.replicate 64 0)) by rw [hw]; exact hY.out.kept (setCells_heap (by omega) _ _ _))
          clear hw HM hX hY
          have HM := HM'
          clear HM'
          have hX := hX'
          clear hX'
          have hY := hY'
          clear hY'
          refine hK.out _ _ (HM.out.k) (fun hHeld => ?_)
          clear hK K
          try simp only [Act.put, List.setIfInBounds_toArray, List.set_cons_zero, List.set_cons_succ, List.getElem_toArray, List.getElem_cons_zero, List.getElem_cons_succ]
          refine wpAnyH_ready (rs := [7]) (by kernel_rfl) (by simp) ?_
          refine AllReadyH.cons rfl (fun K hK => ?_) AllReadyH.nil
          refine Eq.mpr (if_pos (by rfl)) ?_
          refine wp_store_list 120 _ _ rfl N5 0 is rfl rfl (hY.out.there (by rw [B_length, List.length_replicate, Hisl.out]; omega)) Hisi.out Hiso.out ?_
          intro v6 hw
          have HM' := hid (show M2 w v6 L Lk fs by rw [hw]; exact HM.out.store (by omega) (by omega) _)
          have hY' := hid (show Blk v6 120 N5 is by rw [hw]; exact Blk.over (by rw [B_length, List.length_replicate, Hisl.out]) hY.out)
          have hX' := hid (show Blk v6 120 N4 os by rw [hw]; exact hX.out.kept (setCells_heap (by omega) _ _ _))
          clear hw HM hX hY
          have HM := HM'
          clear HM'
          have hX := hX'
          clear hX'
          have hY := hY'
          clear hY'
          refine hK.out _ _ (HM.out.k) (fun hHeld => ?_)
          clear hK K
          try simp only [Act.put, List.setIfInBounds_toArray, List.set_cons_zero, List.set_cons_succ, List.getElem_toArray, List.getElem_cons_zero, List.getElem_cons_succ]
          refine wpAnyH_done (by kernel_rfl) ?_ _
          exact ⟨N4, N5, by kernel_rfl, by omega, by omega, hX.out, hY.out, HM.out⟩
        · obtain ⟨N5, hN5⟩ : ∃ N, v2.heap.size = N := ⟨_, rfl⟩
          refine Eq.mpr (if_pos (by rfl)) ?_
          refine wp_alloc_blk 120 rfl _ zeroBlk N5 hN5 ?_
          intro v3 hB hb hz
          have hb' : Below v2.heap.size v2 v3 := by rw [hN5]; exact hb
          have HM' := hid (HM.out.later hb')
          have hl5 : L < N5 := by have := HM.out.r.lt; omega
          have hX' := hid (hX.out.later hb')
          have hne : N5 ≠ N4 := by have := hX.out.lt; omega
          have hY' := hid hB
          clear hb hb' hB HM hX
          have HM := HM'
          clear HM'
          have hX := hX'
          clear hX'
          have hY := hY'
          clear hY'
          refine hK.out _ _ (HM.out.k) (fun hHeld => ?_)
          clear hK K
          try simp only [Act.put, List.setIfInBounds_toArray, List.set_cons_zero, List.set_cons_succ, List.getElem_toArray, List.getElem_cons_zero, List.getElem_cons_succ]
          refine wpAnyH_ready (rs := [3]) (by kernel_rfl) (by simp) ?_
          refine AllReadyH.cons rfl (fun K hK => ?_) AllReadyH.nil
          go_simp
          refine (HD.out _).mono ?_
          rintro _ v4 ⟨rfl, hb⟩
          have HM' := hid (HM.out.later hb)
          have hz := hb.size
          have hX' := hid (hX.out.later hb)
          have hY' := hid (hY.out.later hb)
          clear hb HM hX hY
          have HM := HM'
          clear HM'
          have hX := hX'
          clear hX'
          have hY := hY'
          clear hY'
          refine hK.out _ _ (HM.out.k) (fun hHeld => ?_)
          clear hK K
          try simp only [Act.put, List.setIfInBounds_toArray, List.set_cons_zero, List.set_cons_succ, List.getElem_toArray, List.getElem_cons_zero, List.getElem_cons_succ]
          refine wpAnyH_ready (rs := [6]) (by kernel_rfl) (by simp) ?_
          refine AllReadyH.cons rfl (fun K hK => ?_) AllReadyH.nil
          refine Eq.mpr (if_pos (by rfl)) ?_
          refine wp_store_list 120 _ _ rfl N4 0 os rfl rfl (hX.out.there (by rw [B_length, List.length_replicate, Hosl.out]; omega)) Hosi.out Hoso.out ?_
          intro v5 hw
          have HM' := hid (show M2 w v5 L Lk fs by rw [hw]; exact HM.out.store (by omega) (by omega) _)
          have hX' := hid (show Blk v5 120 N4 os by rw [hw]; exact Blk.over (by rw [B_length, List.length_replicate, Hosl.out]) hX.out)
          have hY' := hid (show Blk v5 120 N5 (B (List.replicate 64 0)) by rw [hw]; exact hY.out.kept (setCells_heap (by omega) _ _ _))
          clear hw HM hX hY
          have HM := HM'
          clear HM'
          have hX := hX'
          clear hX'
          have hY := hY'
          clear hY'
          refine hK.out _ _ (HM.out.k) (fun hHeld => ?_)
          clear hK K
          try simp only [Act.put, List.setIfInBounds_toArray, List.set_cons_zero, List.set_cons_succ, List.getElem_toArray, List.getElem_cons_zero, List.getElem_cons_succ]
          refine wpAnyH_ready (rs := [7]) (by kernel_rfl) (by simp) ?_
          refine AllReadyH.cons rfl (fun K hK => ?_) AllReadyH.nil
          refine Eq.mpr (if_pos (by rfl)) ?_
          refine wp_store_list 120 _ _ rfl N5 0 is rfl rfl (hY.out.there (by rw [B_length, List.length_replicate, Hisl.out]; omega)) Hisi.out Hiso.out ?_
          intro v6 hw
          have HM' := hid (show M2 w v6 L Lk fs by rw [hw]; exact HM.out.store (by omega) (by omega) _)
          have hY' := hid (show Blk v6 120 N5 is by rw [hw]; exact Blk.over (by rw [B_length, List.length_replicate, Hisl.out]) hY.out)
          have hX' := hid (show Blk v6 120 N4 os by rw [hw]; exact hX.out.kept (setCells_heap (by omega) _ _ _))
          clear hw HM hX hY
          have HM := HM'
          clear HM'
          have hX := hX'
          clear hX'
          have hY := hY'
          clear hY'
          refine hK.out _ _ (HM.out.k) (fun hHeld => ?_)
          clear hK K
          try simp only [Act.put, List.setIfInBounds_toArray, List.set_cons_zero, List.set_cons_succ, List.getElem_toArray, List.getElem_cons_zero, List.getElem_cons_succ]
          refine wpAnyH_done (by kernel_rfl) ?_ _
          exact ⟨N4, N5, by kernel_rfl, by omega, by omega, hX.out, hY.out, HM.out⟩
      · obtain ⟨N5, hN5⟩ : ∃ N, v1.heap.size = N := ⟨_, rfl⟩
        refine Eq.mpr (if_pos (by rfl)) ?_
        refine wp_alloc_blk 120 rfl _ zeroBlk N5 hN5 ?_
        intro v2 hB hb hz
        have hb' : Below v1.heap.size v1 v2 := by rw [hN5]; exact hb
        have HM' := hid (HM.out.later hb')
        have hl5 : L < N5 := by have := HM.out.r.lt; omega
        have hX' := hid (hX.out.later hb')
        have hne : N5 ≠ N4 := by have := hX.out.lt; omega
        have hY' := hid hB
        clear hb hb' hB HM hX
        have HM := HM'
        clear HM'
        have hX := hX'
        clear hX'
        have hY := hY'
        clear hY'
        refine hK.out _ _ (HM.out.k) (fun hHeld => ?_)
        clear hK K
        try simp only [Act.put, List.setIfInBounds_toArray, List.set_cons_zero, List.set_cons_succ, List.getElem_toArray, List.getElem_cons_zero, List.getElem_cons_succ]
        refine wpAnyH_ready (rs := [1]) (by kernel_rfl) (by simp) ?_
        refine AllReadyH.cons rfl (fun K hK => ?_) AllReadyH.nil
        go_simp
        refine (HC.out _).mono ?_
        rintro _ v3 ⟨rfl, hb⟩
        have HM' := hid (HM.out.later hb)
        have hz := hb.size
        have hX' := hid (hX.out.later hb)
        have hY' := hid (hY.out.later hb)
        clear hb HM hX hY
        have HM := HM'
        clear HM'
        have hX := hX'
        clear hX'
        have hY := hY'
        clear hY'
        refine hK.out _ _ (HM.out.k) (fun hHeld => ?_)
        clear hK K
        try simp only [Act.put, List.setIfInBounds_toArray, List.set_cons_zero, List.set_cons_succ, List.getElem_toArray, List.getElem_cons_zero, List.getElem_cons_succ]
        refine wpAnyH_ready (rs := [3]) (by kernel_rfl) (by simp) ?_
        refine AllReadyH.cons rfl (fun K hK => ?_) AllReadyH.nil
        go_simp
        refine (HD.out _).mono ?_
        rintro _ v4 ⟨rfl, hb⟩
        have HM' := hid (HM.out.later hb)
        have hz := hb.size
        have hX' := hid (hX.out.later hb)
        have hY' := hid (hY.out.later hb)
        clear hb HM hX hY
        have HM := HM'
        clear HM'
        have hX := hX'
        clear hX'
        have hY := hY'
        clear hY'
        refine hK.out _ _ (HM.out.k) (fun hHeld => ?_)
        clear hK K
        try simp only [Act.put, List.setIfInBounds_toArray, List.set_cons_zero, List.set_cons_succ, List.getElem_toArray, List.getElem_cons_zero, List.getElem_cons_succ]
        refine wpAnyH_ready (rs := [6]) (by kernel_rfl) (by simp) ?_
        refine AllReadyH.cons rfl (fun K hK => ?_) AllReadyH.nil
        refine Eq.mpr (if_pos (by rfl)) ?_
        refine wp_store_list 120 _ _ rfl N4 0 os rfl rfl (hX.out.there (by rw [B_length, List.length_replicate, Hosl.out]; omega)) Hosi.out Hoso.out ?_
        intro v5 hw
        have HM' := hid (show M2 w v5 L Lk fs by rw [hw]; exact HM.out.store (by omega) (by omega) _)
        have hX' := hid (show Blk v5 120 N4 os by rw [hw]; exact Blk.over (by rw [B_length, List.length_replicate, Hosl.out]) hX.out)
        have hY' := hid (show Blk v5 120 N5 (B (List.replicate 64 0)) by rw [hw]; exact hY.out.kept (setCells_heap (by omega) _ _ _))
        clear hw HM hX hY
        have HM := HM'
        clear HM'
        have hX := hX'
        clear hX'
        have hY := hY'
        clear hY'
        refine hK.out _ _ (HM.out.k) (fun hHeld => ?_)
        clear hK K
        try simp only [Act.put, List.setIfInBounds_toArray, List.set_cons_zero, List.set_cons_succ, List.getElem_toArray, List.getElem_cons_zero, List.getElem_cons_succ]
        refine wpAnyH_ready (rs := [7]) (by kernel_rfl) (by simp) ?_
        refine AllReadyH.cons rfl (fun K hK => ?_) AllReadyH.nil
        refine Eq.mpr (if_pos (by rfl)) ?_
        refine wp_store_list 120 _ _ rfl N5 0 is rfl rfl (hY.out.there (by rw [B_length, List.length_replicate, Hisl.out]; omega)) Hisi.out Hiso.out ?_
        intro v6 hw
        have HM' := hid (show M2 w v6 L Lk fs by rw [hw]; exact HM.out.store (by omega) (by omega) _)
        have hY' := hid (show Blk v6 120 N5 is by rw [hw]; exact Blk.over (by rw [B_length, List.length_replicate, Hisl.out]) hY.out)
        have hX' := hid (show Blk v6 120 N4 os by rw [hw]; exact hX.out.kept (setCells_heap (by omega) _ _ _))
        clear hw HM hX hY
        have HM := HM'
        clear HM'
        have hX := hX'
        clear hX'
        have hY := hY'
        clear hY'
        refine hK.out _ _ (HM.out.k) (fun hHeld => ?_)
        clear hK K
        try simp only [Act.put, List.setIfInBounds_toArray, List.set_cons_zero, List.set_cons_succ, List.getElem_toArray, List.getElem_cons_zero, List.getElem_cons_succ]
        refine wpAnyH_done (by kernel_rfl) ?_ _
        exact ⟨N4, N5, by kernel_rfl, by omega, by omega, hX.out, hY.out, HM.out⟩
    · obtain ⟨N5, hN5⟩ : ∃ N, w4.drew.heap.size = N := ⟨_, rfl⟩
      refine Eq.mpr (if_pos (by rfl)) ?_
      refine wp_alloc_blk 120 rfl _ zeroBlk N5 hN5 ?_
      intro v1 hB hb hz
      have hb' : Below w4.drew.heap.size w4.drew v1 := by rw [hN5]; exact hb
      have HM' := hid (HM.out.later hb')
      have hl5 : L < N5 := by have := HM.out.r.lt; omega
      have hne : True := trivial
      have hY' := hid hB
      clear hb hb' hB HM
      have HM := HM'
      clear HM'
      have hY := hY'
      clear hY'
      refine hK.out _ _ (HM.out.k) (fun hHeld => ?_)
      clear hK K
      try simp only [Act.put, List.setIfInBounds_toArray, List.set_cons_zero, List.set_cons_succ, List.getElem_toArray, List.getElem_cons_zero, List.getElem_cons_succ]
      refine wpAnyH_ready (rs := [1, 4]) (by kernel_rfl) (by simp) ?_
      refine AllReadyH.cons rfl (fun K hK => ?_) (AllReadyH.cons rfl (fun K hK => ?_) AllReadyH.nil)
      · go_simp
        refine (HC.out _).mono ?_
        rintro _ v2 ⟨rfl, hb⟩
        have HM' := hid (HM.out.later hb)
        have hz := hb.size
        have hY' := hid (hY.out.later hb)
        clear hb HM hY
        have HM := HM'
        clear HM'
        have hY := hY'
        clear hY'
        refine hK.out _ _ (HM.out.k) (fun hHeld => ?_)
        clear hK K
        try simp only [Act.put, List.setIfInBounds_toArray, List.set_cons_zero, List.set_cons_succ, List.getElem_toArray, List.getElem_cons_zero, List.getElem_cons_succ]
        refine wpAnyH_ready (rs := [3, 4]) (by kernel_rfl) (by simp) ?_
        refine AllReadyH.cons rfl (fun K hK => ?_) (AllReadyH.cons rfl (fun K hK => ?_) AllReadyH.nil)
        · go_simp
          refine (HD.out _).mono ?_
          rintro _ v3 ⟨rfl, hb⟩
          have HM' := hid (HM.out.later hb)
          have hz := hb.size
          have hY' := hid (hY.out.later hb)
          clear hb HM hY
          have HM := HM'
          clear HM'
          have hY := hY'
          clear hY'
          refine hK.out _ _ (HM.out.k) (fun hHeld => ?_)
          clear hK K
          try simp only [Act.put, List.setIfInBounds_toArray, List.set_cons_zero, List.set_cons_succ, List.getElem_toArray, List.getElem_cons_zero, List.getElem_cons_succ]
          refine wpAnyH_ready (rs := [4]) (by kernel_rfl) (by simp) ?_
          refine AllReadyH.cons rfl (fun K hK => ?_) AllReadyH.nil
          obtain ⟨N4, hN4⟩ : ∃ N, v3.heap.size = N := ⟨_, rfl⟩
          refine Eq.mpr (if_pos (by rfl)) ?_
          refine wp_alloc_blk 120 rfl _ zeroBlk N4 hN4 ?_
          intro v4 hB hb hz
          have hb' : Below v3.heap.size v3 v4 := by rw [hN4]; exact hb
          have HM' := hid (HM.out.later hb')
          have hl4 : L < N4 := by have := HM.out.r.lt; omega
          have hY' := hid (hY.out.later hb')
          have hne : N4 ≠ N5 := by have := hY.out.lt; omega
          have hX' := hid hB
          clear hb hb' hB HM hY
          have HM := HM'
          clear HM'
          have hX := hX'
          clear hX'
          have hY := hY'
          clear hY'
          refine hK.out _ _ (HM.out.k) (fun hHeld => ?_)
          clear hK K
          try simp only [Act.put, List.setIfInBounds_toArray, List.set_cons_zero, List.set_cons_succ, List.getElem_toArray, List.getElem_cons_zero, List.getElem_cons_succ]
          refine wpAnyH_ready (rs := [6]) (by kernel_rfl) (by simp) ?_
          refine AllReadyH.cons rfl (fun K hK => ?_) AllReadyH.nil
          refine Eq.mpr (if_pos (by rfl)) ?_
          refine wp_store_list 120 _ _ rfl N4 0 os rfl rfl (hX.out.there (by rw [B_length, List.length_replicate, Hosl.out]; omega)) Hosi.out Hoso.out ?_
          intro v5 hw
          have HM' := hid (show M2 w v5 L Lk fs by rw [hw]; exact HM.out.store (by omega) (by omega) _)
          have hX' := hid (show Blk v5 120 N4 os by rw [hw]; exact Blk.over (by rw [B_length, List.length_replicate, Hosl.out]) hX.out)
          have hY' := hid (show Blk v5 120 N5 (B (List.replicate 64 0)) by rw [hw]; exact hY.out.kept (setCells_heap (by omega) _ _ _))
          clear hw HM hX hY
          have HM := HM'
          clear HM'
          have hX := hX'
          clear hX'
          have hY := hY'
          clear hY'
          refine hK.out _ _ (HM.out.k) (fun hHeld => ?_)
          clear hK K
          try simp only [Act.put, List.setIfInBounds_toArray, List.set_cons_zero, List.set_cons_succ, List.getElem_toArray, List.getElem_cons_zero, List.getElem_cons_succ]
          refine wpAnyH_ready (rs := [7]) (by kernel_rfl) (by simp) ?_
          refine AllReadyH.cons rfl (fun K hK => ?_) AllReadyH.nil
          refine Eq.mpr (if_pos (by rfl)) ?_
          refine wp_store_list 120 _ _ rfl N5 0 is rfl rfl (hY.out.there (by rw [B_length, List.length_replicate, Hisl.out]; omega)) Hisi.out Hiso.out ?_
          intro v6 hw
          have HM' := hid (show M2 w v6 L Lk fs by rw [hw]; exact HM.out.store (by omega) (by omega) _)
          have hY' := hid (show Blk v6 120 N5 is by rw [hw]; exact Blk.over (by rw [B_length, List.length_replicate, Hisl.out]) hY.out)
          have hX' := hid (show Blk v6 120 N4 os by rw [hw]; exact hX.out.kept (setCells_heap (by omega) _ _ _))
          clear hw HM hX hY
          have HM := HM'
          clear HM'
          have hX := hX'
          clear hX'
          have hY := hY'
          clear hY'
          refine hK.out _ _ (HM.out.k) (fun hHeld => ?_)
          clear hK K
          try simp only [Act.put, List.setIfInBounds_toArray, List.set_cons_zero, List.set_cons_succ, List.getElem_toArray, List.getElem_cons_zero, List.getElem_cons_succ]
          refine wpAnyH_done (by kernel_rfl) ?_ _
          exact ⟨N4, N5, by kernel_rfl, by omega, by omega, hX.out, hY.out, HM.out⟩
        · obtain ⟨N4, hN4⟩ : ∃ N, v2.heap.size = N := ⟨_, rfl⟩
          refine Eq.mpr (if_pos (by rfl)) ?_
          refine wp_alloc_blk 120 rfl _ zeroBlk N4 hN4 ?_
          intro v3 hB hb hz
          have hb' : Below v2.heap.size v2 v3 := by rw [hN4]; exact hb
          have HM' := hid (HM.out.later hb')
          have hl4 : L < N4 := by have := HM.out.r.lt; omega
          have hY' := hid (hY.out.later hb')
          have hne : N4 ≠ N5 := by have := hY.out.lt; omega
          have hX' := hid hB
          clear hb hb' hB HM hY
          have HM := HM'
          clear HM'
          have hX := hX'
          clear hX'
          have hY := hY'
          clear hY'
          refine hK.out _ _ (HM.out.k) (fun hHeld => ?_)
          clear hK K
          try simp only [Act.put, List.setIfInBounds_toArray, List.set_cons_zero, List.set_cons_succ, List.getElem_toArray, List.getElem_cons_zero, List.getElem_cons_succ]
          refine wpAnyH_ready (rs := [3]) (by kernel_rfl) (by simp) ?_
          refine AllReadyH.cons rfl (fun K hK => ?_) AllReadyH.nil
          go_simp
          refine (HD.out _).mono ?_
          rintro _ v4 ⟨rfl, hb⟩
          have HM' := hid (HM.out.later hb)
          have hz := hb.size
          have hX' := hid (hX.out.later hb)
          have hY' := hid (hY.out.later hb)
          clear hb HM hX hY
          have HM := HM'
          clear HM'
          have hX := hX'
          clear hX'
          have hY := hY'
          clear hY'
          refine hK.out _ _ (HM.out.k) (fun hHeld => ?_)
          clear hK K
          try simp only [Act.put, List.setIfInBounds_toArray, List.set_cons_zero, List.set_cons_succ, List.getElem_toArray, List.getElem_cons_zero, List.getElem_cons_succ]
          refine wpAnyH_ready (rs := [6]) (by kernel_rfl) (by simp) ?_
          refine AllReadyH.cons rfl (fun K hK => ?_) AllReadyH.nil
          refine Eq.mpr (if_pos (by rfl)) ?_
          refine wp_store_list 120 _ _ rfl N4 0 os rfl rfl (hX.out.there (by rw [B_length, List.length_replicate, Hosl.out]; omega)) Hosi.out Hoso.out ?_
          intro v5 hw
          have HM' := hid (show M2 w v5 L Lk fs by rw [hw]; exact HM.out.store (by omega) (by omega) _)
          have hX' := hid (show Blk v5 120 N4 os by rw [hw]; exact Blk.over (by rw [B_length, List.length_replicate, Hosl.out]) hX.out)
          have hY' := hid (show Blk v5 120 N5 (B (List.replicate 64 0)) by rw [hw]; exact hY.out.kept (setCells_heap (by omega) _ _ _))
          clear hw HM hX hY
          have HM := HM'
          clear HM'
          have hX := hX'
          clear hX'
          have hY := hY'
          clear hY'
          refine hK.out _ _ (HM.out.k) (fun hHeld => ?_)
          clear hK K
          try simp only [Act.put, List.setIfInBounds_toArray, List.set_cons_zero, List.set_cons_succ, List.getElem_toArray, List.getElem_cons_zero, List.getElem_cons_succ]
          refine wpAnyH_ready (rs := [7]) (by kernel_rfl) (by simp) ?_
          refine AllReadyH.cons rfl (fun K hK => ?_) AllReadyH.nil
          refine Eq.mpr (if_pos (by rfl)) ?_
          refine wp_store_list 120 _ _ rfl N5 0 is rfl rfl (hY.out.there (by rw [B_length, List.length_replicate, Hisl.out]; omega)) Hisi.out Hiso.out ?_
          intro v6 hw
          have HM' := hid (show M2 w v6 L Lk fs by rw [hw]; exact HM.out.store (by omega) (by omega) _)
          have hY' := hid (show Blk v6 120 N5 is by rw [hw]; exact Blk.over (by rw [B_length, List.length_replicate, Hisl.out]) hY.out)
          have hX' := hid (show Blk v6 120 N4 os by rw [hw]; exact hX.out.kept (setCells_heap (by omega) _ _ _))
          clear hw HM hX hY
          have HM := HM'
          clear HM'
          have hX := hX'
          clear hX'
          have hY := hY'
          clear hY'
          refine hK.out _ _ (HM.out.k) (fun hHeld => ?_)
          clear hK K
          try simp only [Act.put, List.setIfInBounds_toArray, List.set_cons_zero, List.set_cons_succ, List.getElem_toArray, List.getElem_cons_zero, List.getElem_cons_succ]
          refine wpAnyH_done (by kernel_rfl) ?_ _
          exact ⟨N4, N5, by kernel_rfl, by omega, by omega, hX.out, hY.out, HM.out⟩
      · obtain ⟨N4, hN4⟩ : ∃ N, v1.heap.size = N := ⟨_, rfl⟩
        refine Eq.mpr (if_pos (by rfl)) ?_
        refine wp_alloc_blk 120 rfl _ zeroBlk N4 hN4 ?_
        intro v2 hB hb hz
        have hb' : Below v1.heap.size v1 v2 := by rw [hN4]; exact hb
        have HM' := hid (HM.out.later hb')
        have hl4 : L < N4 := by have := HM.out.r.lt; omega
        have hY' := hid (hY.out.later hb')
        have hne : N4 ≠ N5 := by have := hY.out.lt; omega
        have hX' := hid hB
        clear hb hb' hB HM hY
        have HM := HM'
        clear HM'
        have hX := hX'
        clear hX'
        have hY := hY'
        clear hY'
        refine hK.out _ _ (HM.out.k) (fun hHeld => ?_)
        clear hK K
        try simp only [Act.put, List.setIfInBounds_toArray, List.set_cons_zero, List.set_cons_succ, List.getElem_toArray, List.getElem_cons_zero, List.getElem_cons_succ]
        refine wpAnyH_ready (rs := [1]) (by kernel_rfl) (by simp) ?_
        refine AllReadyH.cons rfl (fun K hK => ?_) AllReadyH.nil
        go_simp
        refine (HC.out _).mono ?_
        rintro _ v3 ⟨rfl, hb⟩
        have HM' := hid (HM.out.later hb)
        have hz := hb.size
        have hX' := hid (hX.out.later hb)
        have hY' := hid (hY.out.later hb)
        clear hb HM hX hY
        have HM := HM'
        clear HM'
        have hX := hX'
        clear hX'
        have hY := hY'
        clear hY'
        refine hK.out _ _ (HM.out.k) (fun hHeld => ?_)
        clear hK K
        try simp only [Act.put, List.setIfInBounds_toArray, List.set_cons_zero, List.set_cons_succ, List.getElem_toArray, List.getElem_cons_zero, List.getElem_cons_succ]
        refine wpAnyH_ready (rs := [3]) (by kernel_rfl) (by simp) ?_
        refine AllReadyH.cons rfl (fun K hK => ?_) AllReadyH.nil
        go_simp
        refine (HD.out _).mono ?_
        rintro _ v4 ⟨rfl, hb⟩
        have HM' := hid (HM.out.later hb)
        have hz := hb.size
        have hX' := hid (hX.out.later hb)
        have hY' := hid (hY.out.later hb)
        clear hb HM hX hY
        have HM := HM'
        clear HM'
        have hX := hX'
        clear hX'
        have hY := hY'
        clear hY'
        refine hK.out _ _ (HM.out.k) (fun hHeld => ?_)
        clear hK K
        try simp only [Act.put, List.setIfInBounds_toArray, List.set_cons_zero, List.set_cons_succ, List.getElem_toArray, List.getElem_cons_zero, List.getElem_cons_succ]
        refine wpAnyH_ready (rs := [6]) (by kernel_rfl) (by simp) ?_
        refine AllReadyH.cons rfl (fun K hK => ?_) AllReadyH.nil
        refine Eq.mpr (if_pos (by rfl)) ?_
        refine wp_store_list 120 _ _ rfl N4 0 os rfl rfl (hX.out.there (by rw [B_length, List.length_replicate, Hosl.out]; omega)) Hosi.out Hoso.out ?_
        intro v5 hw
        have HM' := hid (show M2 w v5 L Lk fs by rw [hw]; exact HM.out.store (by omega) (by omega) _)
        have hX' := hid (show Blk v5 120 N4 os by rw [hw]; exact Blk.over (by rw [B_length, List.length_replicate, Hosl.out]) hX.out)
        have hY' := hid (show Blk v5 120 N5 (B (List.replicate 64 0)) by rw [hw]; exact hY.out.kept (setCells_heap (by omega) _ _ _))
        clear hw HM hX hY
        have HM := HM'
        clear HM'
        have hX := hX'
        clear hX'
        have hY := hY'
        clear hY'
        refine hK.out _ _ (HM.out.k) (fun hHeld => ?_)
        clear hK K
        try simp only [Act.put, List.setIfInBounds_toArray, List.set_cons_zero, List.set_cons_succ, List.getElem_toArray, List.getElem_cons_zero, List.getElem_cons_succ]
        refine wpAnyH_ready (rs := [7]) (by kernel_rfl) (by simp) ?_
        refine AllReadyH.cons rfl (fun K hK => ?_) AllReadyH.nil
        refine Eq.mpr (if_pos (by rfl)) ?_
        refine wp_store_list 120 _ _ rfl N5 0 is rfl rfl (hY.out.there (by rw [B_length, List.length_replicate, Hisl.out]; omega)) Hisi.out Hiso.out ?_
        intro v6 hw
        have HM' := hid (show M2 w v6 L Lk fs by rw [hw]; exact HM.out.store (by omega) (by omega) _)
        have hY' := hid (show Blk v6 120 N5 is by rw [hw]; exact Blk.over (by rw [B_length, List.length_replicate, Hisl.out]) hY.out)
        have hX' := hid (show Blk v6 120 N4 os by rw [hw]; exact hX.out.kept (setCells_heap (by omega) _ _ _))
        clear hw HM hX hY
        have HM := HM'
        clear HM'
        have hX := hX'
        clear hX'
        have hY := hY'
        clear hY'
        refine hK.out _ _ (HM.out.k) (fun hHeld => ?_)
        clear hK K
        try simp only [Act.put, List.setIfInBounds_toArray, List.set_cons_zero, List.set_cons_succ, List.getElem_toArray, List.getElem_cons_zero, List.getElem_cons_succ]
        refine wpAnyH_done (by kernel_rfl) ?_ _
        exact ⟨N4, N5, by kernel_rfl, by omega, by omega, hX.out, hY.out, HM.out⟩
  case rest =>
  intro e a5 w5 h
  cases e with
  | normal =>
    obtain ⟨x6, x7, rfl, hx6, hx7, hX, hY, hM⟩ := h
    have HX := hid hX
    have HY := hid hY
    have HM := hid hM
    have hz5 : x7 < w5.heap.size := hY.lt
    clear hX hY hM
    obtain ⟨xs, hxl, hsrc, hxs⟩ := (HP.out.later HM.out.b).cells
    rw [HPn.out] at hsrc
    have Hsrc := hid hsrc
    have Hxs := hid hxs
    have HOw := hid (show Has (w5.alloc (.cells #[.slice (some ⟨x7, 0, none⟩) 64 64] 22)) 22 w5.heap.size (.slice (some ⟨w5.heap.size, 0, none⟩) 1 1) 1 [.slice (some ⟨x7, 0, none⟩) 64 64] from
      .inr ⟨w5.heap.size, 1, rfl, Nat.le_refl _, rfl, Nat.le_refl _, by unfold maxLen; omega, _, heap_alloc_new w5 _, rfl, rfl⟩)
    have hbA : Below w5.heap.size w5 (w5.alloc (.cells #[.slice (some ⟨x7, 0, none⟩) 64 64] 22)) := (Below.refl _ _).alloc (Nat.le_refl _) _
    have HbA := hid hbA
    have hsA : w5.heap.size ≤ (w5.alloc (.cells #[.slice (some ⟨x7, 0, none⟩) 64 64] 22)).heap.size := hbA.size
    clear hsrc hxs hbA hxl
    go_wp2_with (at_builtin; go_must (refine wpList_append_row _ rfl _ _ 90 90 rfl 22 i0 (.slice none 0 0) Tryd.underlying90 hi0 hz0 hz1 rfl w5.heap.size _ 1 _ rfl HOw.out hsA _ pn xs rfl (Hsrc.out _ HbA.out) (Or.inr (by omega)) (by rw [hz2]; omega) (by omega) ?_); intro v6 w6 hH6 hb6; replace hH6 := hid hH6; replace hb6 := hid hb6)
    have Hb56 := hid (HbA.out.trans hb6.out)
    have HIR := hid (show Reads w5 (.slice (some ⟨x7, 0, none⟩) 64 64) (B il) by
      have h := HY.out
      rw [← HIS.out] at h
      exact h.whole HIL.out)
    have HPR := hid (PRow.cons (Bd := w5.heap.size) (v' := v6) (w' := w6) Hxs.out il _ 64 64 HIL.out HIR.out (by unfold maxLen; omega) (by rw [HPn.out]; exact hH6.out))
    have HPt := hid (HPR.out.parts Hb56.out)
    have HM6 := hid (HM.out.later Hb56.out)
    have HX6 := hid (HX.out.later Hb56.out)
    clear hH6 hb6 HOw HbA hsA Hsrc Hxs HPR HIR Hb56
    obtain ⟨sl, hsl⟩ : ∃ sl, shaS (il ++ ls.flatten) = sl := ⟨_, rfl⟩
    have hsll : sl.length = 32 := by rw [← hsl, shaS_len]
    obtain ⟨ss, hss⟩ : ∃ ss, B sl = ss := ⟨_, rfl⟩
    have hssl : ss.length = 32 := by rw [← hss, B_length, hsll]
    have Hsso := hid (show ∀ v ∈ ss, v.oneCell' = true by rw [← hss]; exact B_one _)
    have Hssi := hid (show (Tryd.prog.info? 26).map (·.size) = some ss.length by rw [hssl]; kernel_rfl)
    have Hssl := hid hssl
    have HSL := hid hsl
    have HSS := hid hss
    have HSLL := hid hsll
    clear hsl hss hssl hsll
    refine (Sum_any w6 (HT.out.below HM6.out.b h2) v6 (il :: ls) HPt.out (by rw [List.length_cons, HPn.out]; omega) (by rw [List.flatten_cons, List.length_append, HIL.out]; have := HTot.out; omega)).mono ?_
    rintro _ w7 ⟨rfl, hb7⟩
    rw [List.flatten_cons, HSL.out, HSS.out]
    have HM7 := hid (HM6.out.later hb7)
    have HX7 := hid (HX6.out.later hb7)
    clear hb7 HM6 HX6 HPt
    obtain ⟨Ls, hLs⟩ : ∃ Ls, w7.heap.size = Ls := ⟨_, rfl⟩
    have hLLs : L < Ls := by rw [← hLs]; exact HM7.out.r.lt
    have hxLs : x6 < Ls := by rw [← hLs]; exact HX7.out.lt
    have hkLs : Lk < Ls := by rw [← hLs]; exact HM7.out.k.lt
    go_wp2_with (first
      | (show wpList _ _ _ (⟨some 9, Op.alloc _, _, _, _, _⟩ :: _) _ _; go_must (refine wpList_alloc_blk rfl 26 rfl _ zeroHash Ls hLs ?_); intro w8 hB8 hb8 hs8; replace hB8 := hid hB8; replace hb8 := hid hb8; have ht8 := hid (hB8.out.there (o := 0) (n := ss.length) (by rw [B_length, List.length_replicate, Hssl.out]; omega)))
      | (show wpList _ _ _ (⟨none, Op.store _ _ _, _, _, _, _⟩ :: _) _ _; go_must (refine wpList_store_list rfl 26 _ _ rfl Ls 0 ss rfl rfl ht8.out Hssi.out Hsso.out ?_); intro w9 hw9; replace hw9 := hid hw9))
    have HM9 := hid (show M2 w w9 L Lk fs by
      rw [hw9.out]
      exact (HM7.out.later (by rw [hLs]; exact hb8.out)).store hLLs (by omega) _)
    have HX9 := hid (show Blk w9 120 x6 os by
      rw [hw9.out]
      exact (HX7.out.kept (hb8.out.block x6 hxLs)).kept (setCells_heap (by omega) _ _ _))
    have HS9 := hid (show Blk w9 26 Ls ss by rw [hw9.out]; exact Blk.over (by rw [B_length, List.length_replicate, Hssl.out]) hB8.out)
    clear hw9 ht8 hB8 hb8 hs8 HM7 HX7
    have HRo := hid (show Reads w9 (.slice (some ⟨x6, 0, none⟩) 64 64) (B ol) by
      have h := HX9.out
      rw [← HOS.out] at h
      exact h.whole HOL.out)
    have HRs := hid (show Reads w9 (.slice (some ⟨Ls, 0, none⟩) 32 32) (B sl) by
      have h := HS9.out
      rw [← HSS.out] at h
      exact h.whole HSLL.out)
    have hbB : Below w9.heap.size w9 (w9.drew.alloc (.cells #[.slice (some ⟨x6, 0, none⟩) 64 64, .slice (some ⟨Ls, 0, none⟩) 32 32] 22)) := ((Below.refl _ _).drew).alloc (Nat.le_refl _) _
    have HPp := hid (show Parts (w9.drew.alloc (.cells #[.slice (some ⟨x6, 0, none⟩) 64 64, .slice (some ⟨Ls, 0, none⟩) 32 32] 22)) (.slice (some ⟨w9.heap.size, 0, none⟩) 2 2) [ol, sl] from
      Parts.pair (t := 22) (fr := (0, 0)) (by rw [heap_of_alloc]; exact if_pos rfl) (HRo.out.later hbB) HOL.out (by unfold maxLen; omega) (HRs.out.later hbB) HSLL.out (by unfold maxLen; omega))
    have HMB := hid (HM9.out.later hbB)
    clear hbB HRo HRs HX9 HS9 HM9
    refine wp_region_held_drew (S := fun w' => True) (by kernel_rfl) (trivial) (fun hHeld => ?_)
    refine wpAnyH_take (i := 0) (v := .slice (some ⟨x6, 0, none⟩) 64 64) rfl (by kernel_rfl) (by kernel_rfl) (by kernel_rfl) (fun _ _ _ h => h) (Or.inl ⟨by rfl, by intro w hSw; go_simp⟩) hHeld ?_
    try simp only [Act.put, List.setIfInBounds_toArray, List.set_cons_zero, List.set_cons_succ, List.getElem_toArray, List.getElem_cons_zero, List.getElem_cons_succ]
    refine wpAnyH_take (i := 1) (v := .slice (some ⟨Ls, 0, none⟩) 32 32) rfl (by kernel_rfl) (by kernel_rfl) (by kernel_rfl) (fun _ _ _ h => h) (Or.inl ⟨by rfl, by intro w hSw; go_simp⟩) hHeld ?_
    try simp only [Act.put, List.setIfInBounds_toArray, List.set_cons_zero, List.set_cons_succ, List.getElem_toArray, List.getElem_cons_zero, List.getElem_cons_succ]
    refine wpAnyH_ready (rs := [2]) (by kernel_rfl) (by simp) ?_
    refine AllReadyH.cons rfl (fun K hK => ?_) AllReadyH.nil
    go_simp
    refine hK.out _ _ trivial (fun hHeld => ?_)
    clear hK K
    try simp only [Act.put, List.setIfInBounds_toArray, List.set_cons_zero, List.set_cons_succ, List.getElem_toArray, List.getElem_cons_zero, List.getElem_cons_succ]
    refine wpAnyH_ready (rs := [3]) (by kernel_rfl) (by simp) ?_
    refine AllReadyH.cons rfl (fun K hK => ?_) AllReadyH.nil
    go_simp
    refine (Sum_any _ (HT.out.below HMB.out.b h2) _ [ol, sl] HPp.out (by simp) (by rw [show [ol, sl].flatten = ol ++ sl by simp, List.length_append, HOL.out, HSLL.out]; omega)).mono ?_
    rintro _ w10 ⟨rfl, hb10⟩
    obtain ⟨rs, hrs⟩ : ∃ rs, B (shaS [ol, sl].flatten) = rs := ⟨_, rfl⟩
    rw [hrs]
    have hrsl : rs.length = 32 := by rw [← hrs, B_length, shaS_len]
    have HRS := hid (show B (macS key ls.flatten) = rs by rw [HMac.out, HSL.out, ← hrs]; simp)
    have Hrso := hid (show ∀ v ∈ rs, v.oneCell' = true by rw [← hrs]; exact B_one _)
    have Hrsi := hid (show (Tryd.prog.info? 26).map (·.size) = some rs.length by rw [hrsl]; kernel_rfl)
    have HM10 := hid (HMB.out.later hb10)
    have ht10 := hid (show w10.there L 0 rs.length from HM10.out.r.there (by rw [B_length, List.length_replicate, hrsl]; omega))
    clear hb10 hrs hrsl HMB HPp
    refine hK.out _ _ trivial (fun hHeld => ?_)
    clear hK K
    try simp only [Act.put, List.setIfInBounds_toArray, List.set_cons_zero, List.set_cons_succ, List.getElem_toArray, List.getElem_cons_zero, List.getElem_cons_succ]
    refine wpAnyH_ready (rs := [4]) (by kernel_rfl) (by simp) ?_
    refine AllReadyH.cons rfl (fun K hK => ?_) AllReadyH.nil
    refine Eq.mpr (if_pos (by rfl)) ?_
    refine wp_store_list 26 _ _ rfl L 0 rs rfl rfl ht10.out Hrsi.out Hrso.out ?_
    intro w11 hw11
    replace hw11 := hid hw11
    refine hK.out _ _ trivial (fun hHeld => ?_)
    clear hK K
    try simp only [Act.put, List.setIfInBounds_toArray, List.set_cons_zero, List.set_cons_succ, List.getElem_toArray, List.getElem_cons_zero, List.getElem_cons_succ]
    refine wpAnyH_done (by kernel_rfl) ?_ _
    go_wp2_with fail
    refine ret_cell 4 26 rfl L rfl rs _ ?_ Tryd.underlying26 rfl Hrsi.out rfl ⟨by rw [HRS.out], ?_⟩
    · rw [hw11.out]
      exact World.rangeAt_setCells_same w10 L 0 rs ht10.out
    · rw [hw11.out]
      exact below_setCells HM10.out.lw _ _ HM10.out.b
  | _ => exact h.elim
end Go.Proofs.YtinifnpajkldbaaDoor
