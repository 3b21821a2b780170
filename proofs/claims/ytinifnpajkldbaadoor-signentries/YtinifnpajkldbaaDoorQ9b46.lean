/- Texts laid together: GNext, CloneOp, Entry9. -/
import Derived.Test.YtinifnpajkldbaaDoorPk6
import Derived.Test.YtinifnpajkldbaaDoorPk19
import Derived.Deep.RegionHeld3
import Derived.Test.YtinifnpajkldbaaDoorPk3
import Derived.Test.YtinifnpajkldbaaDoorPk4
import Derived.Test.YtinifnpajkldbaaDoorPk2
import Derived.Test.YtinifnpajkldbaaDoorQ9b40

/- The contract of the second say's Next (chapter 9). -/
namespace Go.Proofs.YtinifnpajkldbaaDoor
open Go.RowKit
set_option linter.unusedSimpArgs false
set_option linter.unusedVariables false

set_option maxRecDepth 100000 in
set_option maxHeartbeats 4000000 in
theorem gNext_any (ph : List UInt8) (hph : ph.length = 32) (e : En) (he : e.Ok) (bv ov : Value) (body : List UInt8) (o : List Cp) (w : World) (hb : Reads w bv (B body)) (hbl : body.length ≤ 400) (hv : RC w ov o) (hf : FewS o) :
    Calls Tryd.prog 30 #[.agg (B ph).toArray, .agg (e.cells bv ov).toArray] w fun x w' => x = .returned (.agg (B (shaS (ph ++ coreB e body o))).toArray) ∧ Below w.heap.size w w' := by
  obtain ⟨i0, hi, hz0, hz1, hz2⟩ := info_parts Tryd.infoByte
  obtain ⟨cs, hcs⟩ : ∃ cs, e.cells bv ov = cs := ⟨_, rfl⟩
  have HCL := hid (show cs.length = 99 by rw [← hcs]; exact En.len he)
  obtain ⟨L, hL⟩ : ∃ L, w.heap.size = L := ⟨_, rfl⟩
  obtain ⟨N, hN⟩ : ∃ N, coreN body.length o = N := ⟨_, rfl⟩
  obtain ⟨core, hcore⟩ : ∃ core, coreB e body o = core := ⟨_, rfl⟩
  have HNL := hid (show core.length = N by rw [← hcore, ← hN]; exact coreB_len he body o)
  have hN2 : N ≤ 8600 := by rw [← hN, coreN]; have := hf.le; omega
  have GC := hid (show ∀ wx, Below L w wx → Calls Tryd.prog 26 #[.agg cs.toArray] wx (fun x w' => ∃ g cap, x = .returned (.slice (some ⟨g, 0, none⟩) N cap) ∧ wx.heap.size ≤ g ∧ Owns w' 5 g cap N (B core) ∧ Below wx.heap.size wx w') from fun wx h => by
    have := gCore_any e he bv ov body o wx (hb.later (by rw [hL]; exact h)) hbl (hv.later (by rw [hL]; exact h)) hf
    rw [hcs, hN, hcore] at this
    exact this)
  obtain ⟨hs, hhs⟩ : ∃ hs, B (shaS (ph ++ core)) = hs := ⟨_, rfl⟩
  have HHS := hid hhs
  have HHL := hid (show hs.length = 32 by rw [← hhs, B_length, shaS_len])
  have HHO := hid (show ∀ v ∈ hs, v.oneCell' = true by rw [← hhs]; exact B_one _)
  have HPH := hid hph
  have HPL := hid (show (B ph).length = 32 by rw [B_length, hph])
  have HIE := hid (show (Tryd.prog.info? 56).map (·.size) = some 99 by kernel_rfl)
  have HIH := hid (show (Tryd.prog.info? 26).map (·.size) = some 32 by kernel_rfl)
  have HZ := hid (show (Tryd.prog.info? 26).bind (fun i => i.zero.map fun z => z.cells.toList) = some (B (List.replicate 32 0)) by kernel_rfl)
  have HCW := hid (show ∀ wx, Blk wx 56 (L + 1) cs → wx.rangeAt (L + 1) 0 cs from fun wx h => h.range fun j v hv => by rw [Nat.zero_add]; exact hv)
  obtain ⟨ps, hps⟩ : ∃ ps, B ph = ps := ⟨_, rfl⟩
  have HPS := hid hps
  rw [hcs, hcore, hhs, hps]
  clear hcs hb hv hf he hph hN hcore hhs hps
  go_enter Tryd.func30, Tryd.ntmps30
  go_upto_region 1 with (first
    | (show wpList _ _ _ (⟨some 2, Op.box _ _, _, _, _, _⟩ :: _) _ _; go_must (refine wpList_box_blk rfl 26 _ rfl ps rfl L hL ?_); intro w1 hB1 hb1 hs1; have HB1 := hid hB1; have Hb1 := hid hb1; clear hB1 hb1)
    | (show wpList _ _ _ (⟨some 3, Op.box _ _, _, _, _, _⟩ :: _) _ _; go_must (refine wpList_box_blk rfl 56 _ rfl cs rfl (L + 1) hs1 ?_); intro w2 hB2 hb2 hs2; have HB2 := hid hB2; have Hb2 := hid hb2; clear hB2 hb2)
    | (show wpList _ _ _ (⟨some 4, Op.alloc _, _, _, _, _⟩ :: _) _ _; go_must (refine wpList_alloc_blk rfl 26 rfl _ HZ.out (L + 2) hs2 ?_); intro w3 hB3 hb3 hs3; have HB3 := hid hB3; have Hb3 := hid hb3; clear hB3 hb3))
  -- REGION
  have HS := hid (show HB L (L + 3) w [(56, L + 1, cs), (26, L, B ph)] (L + 2) 26 32 w3.drew from by
    rw [HPS.out]
    refine HB.drew (HB.cons (HB.cons (HB.nil (by omega) HB3.out (by simp [B]) (Hb1.out.trans ((Hb2.out.mono (by omega)).trans (Hb3.out.mono (by omega)))) (by omega) (by omega)) ?_ (by omega) (by omega)) ?_ (by omega) (by omega))
    · exact (HB1.out.kept (Hb2.out.block L (by omega))).kept (Hb3.out.block L (by omega))
    · exact HB2.out.kept (Hb3.out.block (L + 1) (by omega)))
  have GCX := GC
  clear hs1 hs2 hs3 HB1 HB2 HB3 Hb1 Hb2 Hb3 GC
  refine wp_region_held_drew (S := fun w' => HB L (L + 3) w [(56, L + 1, cs), (26, L, B ph)] (L + 2) 26 32 w') (by kernel_rfl) (HS.out) (fun hHeld => ?_)
  generalize w3.drew = wd at *
  refine wpAnyH_take (i := 1) (v := .slice (some ⟨L, 0, none⟩) 32 32) rfl (by kernel_rfl) (by kernel_rfl) (by kernel_rfl) (fun _ _ _ h => h) (Or.inl ⟨by rfl, by intro w hSw; go_simp⟩) hHeld ?_
  try simp only [Act.put, List.setIfInBounds_toArray, List.set_cons_zero, List.set_cons_succ, List.getElem_toArray, List.getElem_cons_zero, List.getElem_cons_succ]
  refine wpAnyH_take (i := 3) (v := _) rfl (by kernel_rfl) (by kernel_rfl) (by kernel_rfl) (fun _ _ _ h => h) (yieldsIf_load_mid (by rfl) _ _ rfl _ _ rfl cs _ (fun w hSw => (HCW.out _ hSw.fst)) Tryd.underlying56 rfl (by rw [HCL.out]; exact HIE.out)) hHeld ?_
  try simp only [Act.put, List.setIfInBounds_toArray, List.set_cons_zero, List.set_cons_succ, List.getElem_toArray, List.getElem_cons_zero, List.getElem_cons_succ]
  have hzd := hHeld.size
  refine wpAnyH_ready (rs := [0]) (by kernel_rfl) (by simp) ?_
  refine AllReadyH.cons rfl (fun K hK => ?_) AllReadyH.nil
  go_simp
  refine hK.out _ _ (hHeld.alloc _) (fun hHeld => ?_)
  clear hK K
  try simp only [Act.put, List.setIfInBounds_toArray, List.set_cons_zero, List.set_cons_succ, List.getElem_toArray, List.getElem_cons_zero, List.getElem_cons_succ]
  have HE0 := hid (Owns.empty wd 5)
  refine wpAnyH_ready (rs := [2]) (by kernel_rfl) (by simp) ?_
  refine AllReadyH.cons rfl (fun K hK => ?_) AllReadyH.nil
  refine Eq.mpr (if_pos (by rfl)) ?_
  refine wp_append_src9 _ _ _ 22 22 rfl 5 i0 (.int .u8 0) Tryd.underlying22 hi hz0 hz1 hz2 rfl wd.heap.size 0 0 [] rfl HE0.out _ 32 (B ph) rfl (Src.ofBytes _ Tryd.underlying22 HPH.out (reads_range HPH.out (hHeld.tl.fst.range fun j v hv => by rw [Nat.zero_add]; exact hv))) (by omega) ?_
  intro g1 c1 w4 hG1
  rw [Nat.zero_add 32, List.nil_append] at hG1
  rw [Nat.zero_add 32]
  refine hK.out _ _ (hHeld.grow hG1.grown (by omega)) (fun hHeld => ?_)
  clear hK K
  try simp only [Act.put, List.setIfInBounds_toArray, List.set_cons_zero, List.set_cons_succ, List.getElem_toArray, List.getElem_cons_zero, List.getElem_cons_succ]
  have hg1 : L + 3 ≤ g1 := by
    rcases hG1.blk with ⟨h, _⟩ | h
    · omega
    · have : (wd.alloc (.cells #[] 5)).heap.size = wd.heap.size + 1 := by simp
      omega
  have HO1 := hid hG1.own
  clear hG1 HE0
  refine wpAnyH_ready (rs := [4]) (by kernel_rfl) (by simp) ?_
  refine AllReadyH.cons rfl (fun K hK => ?_) AllReadyH.nil
  go_simp
  refine (GCX.out _ hHeld.bel).mono ?_
  rintro _ w5 ⟨g2, c2, rfl, hg2, hO2, hb2⟩
  refine hK.out _ _ (hHeld.later hb2) (fun hHeld => ?_)
  clear hK K
  try simp only [Act.put, List.setIfInBounds_toArray, List.set_cons_zero, List.set_cons_succ, List.getElem_toArray, List.getElem_cons_zero, List.getElem_cons_succ]
  have HO2 := hid hO2
  have HO3 := hid (HO1.out.later hb2)
  clear hO2 hb2 HO1
  refine wpAnyH_ready (rs := [5]) (by kernel_rfl) (by simp) ?_
  refine AllReadyH.cons rfl (fun K hK => ?_) AllReadyH.nil
  refine Eq.mpr (if_pos (by rfl)) ?_
  refine wp_append_src9 _ _ _ 22 22 rfl 5 i0 (.int .u8 0) Tryd.underlying22 hi hz0 hz1 hz2 rfl g1 c1 32 (B ph) rfl HO3.out _ N (B core) rfl (Src.ofBytes _ Tryd.underlying22 HNL.out HO2.out.reads) (by omega) ?_
  intro g3 c3 w6 hG3
  refine hK.out _ _ (hHeld.grow hG3.grown (by omega)) (fun hHeld => ?_)
  clear hK K
  try simp only [Act.put, List.setIfInBounds_toArray, List.set_cons_zero, List.set_cons_succ, List.getElem_toArray, List.getElem_cons_zero, List.getElem_cons_succ]
  have HO4 := hid (show Owns w6 5 g3 c3 (32 + N) (B (ph ++ core)) by rw [B_append]; exact hG3.own)
  clear hG3 HO3 HO2
  refine wpAnyH_ready (rs := [6]) (by kernel_rfl) (by simp) ?_
  refine AllReadyH.cons rfl (fun K hK => ?_) AllReadyH.nil
  go_simp
  refine (refSum_any (ph ++ core) _ (32 + N) c3 (by rw [List.length_append, HPH.out, HNL.out]) _ HO4.out.reads (by omega)).mono ?_
  rintro _ w7 ⟨rfl, hb7⟩
  rw [HHS.out]
  refine hK.out _ _ (hHeld.later hb7) (fun hHeld => ?_)
  clear hK K
  try simp only [Act.put, List.setIfInBounds_toArray, List.set_cons_zero, List.set_cons_succ, List.getElem_toArray, List.getElem_cons_zero, List.getElem_cons_succ]
  clear hb7 HO4
  refine wpAnyH_ready (rs := [7]) (by kernel_rfl) (by simp) ?_
  refine AllReadyH.cons rfl (fun K hK => ?_) AllReadyH.nil
  refine Eq.mpr (if_pos (by rfl)) ?_
  refine wp_store_list 26 _ _ rfl (L + 2) 0 hs rfl rfl (hHeld.there (by rw [HHL.out]; omega)) (by rw [HHL.out]; exact HIH.out) HHO.out ?_
  intro w8 hw8
  have HX := hid (show HB L (L + 3) w [(56, L + 1, cs), (26, L, B ph)] (L + 2) 26 32 w8 ∧ Blk w8 26 (L + 2) hs by rw [hw8]; exact ⟨hHeld.store hs 0 (by rw [HHL.out]; omega), hHeld.whole HHL.out⟩)
  clear hw8
  refine hK.out _ _ (HX.out.1) (fun hHeld => ?_)
  clear hK K
  try simp only [Act.put, List.setIfInBounds_toArray, List.set_cons_zero, List.set_cons_succ, List.getElem_toArray, List.getElem_cons_zero, List.getElem_cons_succ]
  refine wpAnyH_done (by kernel_rfl) ?_ _
  go_wp2_with fail
  refine ret_cell 4 26 rfl (L + 2) rfl hs _ (HX.out.2.range fun j v hv => by rw [Nat.zero_add]; exact hv) Tryd.underlying26 rfl (by rw [HHL.out]; exact HIH.out) rfl ⟨rfl, by rw [hL]; exact HX.out.1.bel⟩
end Go.Proofs.YtinifnpajkldbaaDoor

/- The contracts of slices.Clone of an operation, and of bytes.Clone with where its answer lies. -/
namespace Go.Proofs.YtinifnpajkldbaaDoor
open Go.RowKit
set_option linter.unusedSimpArgs false
set_option linter.unusedVariables false

set_option maxRecDepth 100000 in
set_option maxHeartbeats 1000000 in
theorem cloneOp_any (v : Value) (o : List Cp) (w : World) (hv : RC w v o) (hn : o.length ≤ 1000) :
    Calls Tryd.prog 49 #[v] w fun x w' => ∃ v', x = .returned v' ∧ HasC w' w.heap.size v' o ∧ Below w.heap.size w w' := by
  have HV := hid hv
  have h0 : v = .slice none 0 0 ∧ o = [] ∨ ∃ ad cap, v = .slice (some ad) o.length cap := by
    rcases hv with ⟨ao, cap, rfl, rfl, h0⟩ | ⟨g, off, cap, rfl, _⟩
    · cases ao with
      | none => rw [h0 rfl]; exact .inl ⟨rfl, rfl⟩
      | some ad => exact .inr ⟨ad, cap, rfl⟩
    · exact .inr ⟨_, cap, rfl⟩
  rcases h0 with ⟨rfl, rfl⟩ | ⟨ad, cap, rfl⟩
  · have hE := run_isNil (P := Tryd.prog) w 28 62 none 0 0 Tryd.underlying28
    go_enter Tryd.func49, Tryd.ntmps49
    go_wp2_with fail
    go_ret
    exact ⟨_, rfl, HasC.nil _ _, Below.refl _ _⟩
  · obtain ⟨n, hn2⟩ : ∃ n, o.length = n := ⟨_, rfl⟩
    have HN := hid hn2
    rw [hn2] at HV ⊢
    have hE := run_isNil (P := Tryd.prog) w 28 62 (some ad) n cap Tryd.underlying28
    clear hv hn2
    go_enter Tryd.func49, Tryd.ntmps49
    go_wp2_with (at_builtin; go_must (refine wpList_append_c rfl _ _ rfl w.heap.size _ [] rfl (parts_new w [] 0 rfl) (by simp) _ o rfl (HV.out.later ((Below.refl _ _).alloc (Nat.le_refl _) _)) (by have := HN.out; simp; omega) ?_); intro v2 w2 hH2 hb2; have HH2 := hid hH2; have Hb2 := hid hb2; clear hH2 hb2)
    go_ret
    refine ⟨v2, rfl, HH2.out, ?_⟩
    exact ((Below.refl w.heap.size w).alloc (Nat.le_refl _) (.cells (C []).toArray 62)).trans Hb2.out

theorem Has.kept9 {w w' : World} {e : TypeId} {Bd : Nat} {v : Value} {n : Nat} {xs : List Value} (h : Has w e Bd v n xs) (kp : ∀ k, Bd ≤ k → w'.heap[k]? = w.heap[k]?) : Has w' e Bd v n xs := by
  rcases h with h | ⟨g, cap, rfl, h1, h2⟩
  · exact .inl h
  · exact .inr ⟨g, cap, rfl, h1, h2.kept (kp g h1)⟩

set_option maxRecDepth 100000 in
set_option maxHeartbeats 400000 in
theorem clone_new (v : Value) (l : List UInt8) (w : World) (hr : Reads w v (B l)) (hl : l.length ≤ 140737488355328) :
    Calls Tryd.prog 48 #[v] w fun x w' => ∃ ao cap, x = .returned (.slice ao l.length cap) ∧ Has w' 5 w.heap.size (.slice ao l.length cap) l.length (B l) ∧ Below w.heap.size w w' := by
  obtain ⟨i0, hi, hz0, hz1, hz2⟩ := info_parts Tryd.infoByte
  have HR : Hid (Reads w v (B l)) := hr
  obtain ⟨ao, c, rfl, hc, hn, hcell⟩ := hr
  rw [B_length] at hc HR ⊢
  cases ao with
  | none =>
    have h0 := hn rfl
    subst h0
    have h00 : l = [] := List.length_eq_zero_iff.1 (by omega)
    subst h00
    clear hn hcell
    have hE := run_isNil (P := Tryd.prog) w 22 5 none 0 0 Tryd.underlying22
    go_enter Tryd.func48, Tryd.ntmps48
    go_wp2_with fail
    go_ret
    exact ⟨none, 0, rfl, Has.nil _ _ _, Below.refl _ _⟩
  | some ad =>
    clear hn hcell
    have hE := run_isNil (P := Tryd.prog) w 22 5 (some ad) l.length c Tryd.underlying22
    go_enter Tryd.func48, Tryd.ntmps48
    go_wp2_with (at_builtin; go_must (refine wpList_append_src _ rfl _ _ 22 22 rfl 5 i0 (.int .u8 0) Tryd.underlying22 hi hz0 hz1 hz2 rfl w.heap.size 0 0 [] rfl (Owns.empty _ _) _ l.length (B l) rfl (Src.ofBytes _ Tryd.underlying22 rfl (HR.out.later ((Below.refl _ _).alloc (Nat.le_refl _) _))) (by omega) ?_); intro g2 cap2 w2 hG2)
    go_ret
    have hO := hG2.own
    rw [Nat.zero_add, List.nil_append] at hO
    refine ⟨some ⟨g2, 0, none⟩, cap2, by simp, .inr ⟨g2, cap2, rfl, ?_, hO⟩, hG2.below ((Below.refl _ _).alloc (Nat.le_refl _) _) (Nat.le_refl _)⟩
    rcases hG2.blk with ⟨h, _⟩ | h
    · omega
    · simp at h; omega
end Go.Proofs.YtinifnpajkldbaaDoor

/- Entries that are made and written to (chapter 9). -/
namespace Go.Proofs.YtinifnpajkldbaaDoor
open Go.RowKit
set_option linter.unusedSimpArgs false
set_option linter.unusedVariables false

theorem HB.above {L T : Nat} {w w' w'' : World} {bs : List (TypeId × Nat × List Value)} {q : Nat} {tq : TypeId} {nq : Nat} (h : HB L T w bs q tq nq w') (hb : Below T w' w'') : HB L T w bs q tq nq w'' :=
  ⟨Nat.le_trans h.size hb.size, fun b hm => ⟨(h.blks b hm).1, (h.blks b hm).2.1, (h.blks b hm).2.2.kept (hb.block _ (h.blks b hm).1)⟩, by
    obtain ⟨zs, h1, h2⟩ := h.own
    exact ⟨zs, h1, h2.kept (hb.block _ h.lt)⟩, h.bel.trans (hb.mono (by have := h.lt; have := h.le; omega)), h.lt, h.le⟩

theorem EnW.set_hash {w : World} {t : TypeId} {L : Nat} {e : En} {b o : Value} (h : EnW w t L e b o) (l : List UInt8) (hl : l.length = 32) : EnW (w.setCells L 35 (B l)) t L ⟨e.m1, e.at_, l, e.mac⟩ b o := by
  refine ⟨⟨h.ok.h1, hl, h.ok.h3⟩, ?_⟩
  have h3 := Blk.setCells (t := t) (g := L) (B l) (([b] ++ B e.m1) ++ [.int .i64 e.at_, o]) (B e.hash) (B e.mac) (w := w) (o := 35) (by have := h.blk; simpa only [En.cells, List.append_assoc] using this) (by rw [B_length, B_length, hl, h.ok.h2]) (by simp [B_length, h.ok.h1])
  simpa only [En.cells, List.append_assoc] using h3
theorem EnW.set_mac {w : World} {t : TypeId} {L : Nat} {e : En} {b o : Value} (h : EnW w t L e b o) (l : List UInt8) (hl : l.length = 32) : EnW (w.setCells L 67 (B l)) t L ⟨e.m1, e.at_, e.hash, l⟩ b o := by
  refine ⟨⟨h.ok.h1, h.ok.h2, hl⟩, ?_⟩
  have h3 := Blk.setCells (t := t) (g := L) (B l) (([b] ++ B e.m1) ++ [.int .i64 e.at_, o] ++ B e.hash) (B e.mac) [] (w := w) (o := 67) (by have := h.blk; simpa only [En.cells, List.append_assoc, List.append_nil] using this) (by rw [B_length, B_length, hl, h.ok.h3]) (by simp [B_length, h.ok.h1, h.ok.h2])
  simpa only [En.cells, List.append_assoc, List.append_nil] using h3
set_option maxRecDepth 100000 in
theorem built_entry0 (a : Option Addr) (n c : Nat) (h0 h1 h2 h3 h4 h5 h6 h7 h8 h9 h10 h11 h12 h13 h14 h15 h16 h17 h18 h19 h20 h21 h22 h23 h24 h25 h26 h27 h28 h29 h30 h31 : UInt8) (at_ : Int) (ao : Option Addr) (on oc : Nat) : Tryd.prog.built 56 [(0, .agg (sgC (.slice a n c) [h0, h1, h2, h3, h4, h5, h6, h7, h8, h9, h10, h11, h12, h13, h14, h15, h16, h17, h18, h19, h20, h21, h22, h23, h24, h25, h26, h27, h28, h29, h30, h31]).toArray), (1, .int .i64 at_), (2, .slice ao on oc)] = some ((⟨[h0, h1, h2, h3, h4, h5, h6, h7, h8, h9, h10, h11, h12, h13, h14, h15, h16, h17, h18, h19, h20, h21, h22, h23, h24, h25, h26, h27, h28, h29, h30, h31], at_, List.replicate 32 0, List.replicate 32 0⟩ : En).cells (.slice a n c) (.slice ao on oc)).toArray := by kernel_rfl
theorem built_entry (a : Option Addr) (n c : Nat) (m : List UInt8) (hm : m.length = 32) (at_ : Int) (ao : Option Addr) (on oc : Nat) : Tryd.prog.built 56 [(0, .agg (sgC (.slice a n c) m).toArray), (1, .int .i64 at_), (2, .slice ao on oc)] = some ((⟨m, at_, List.replicate 32 0, List.replicate 32 0⟩ : En).cells (.slice a n c) (.slice ao on oc)).toArray := by
  match m, hm with
  | [h0, h1, h2, h3, h4, h5, h6, h7, h8, h9, h10, h11, h12, h13, h14, h15, h16, h17, h18, h19, h20, h21, h22, h23, h24, h25, h26, h27, h28, h29, h30, h31], _ => exact built_entry0 a n c h0 h1 h2 h3 h4 h5 h6 h7 h8 h9 h10 h11 h12 h13 h14 h15 h16 h17 h18 h19 h20 h21 h22 h23 h24 h25 h26 h27 h28 h29 h30 h31 at_ ao on oc
theorem run_entry9 (w : World) (a : Option Addr) (n c : Nat) (m : List UInt8) (hm : m.length = 32) (at_ : Int) (ao : Option Addr) (on oc : Nat) : (Instr.build 56 #[(0, .agg (sgC (.slice a n c) m).toArray), (1, .int .i64 at_), (2, .slice ao on oc)]).run Tryd.prog w = .ok (.agg ((⟨m, at_, List.replicate 32 0, List.replicate 32 0⟩ : En).cells (.slice a n c) (.slice ao on oc)).toArray) w :=
  run_build w _ _ _ (built_entry a n c m hm at_ ao on oc)

/-- An entry that is made. -/
def hashE (ph : List UInt8) (m : List UInt8) (at_ : Int) (body : List UInt8) (o : List Cp) : List UInt8 := shaS (ph ++ (tx body ++ m ++ i8 at_ ++ tx (opB o)))
def madeE (key ph m : List UInt8) (at_ : Int) (body : List UInt8) (o : List Cp) : En := ⟨m, at_, hashE ph m at_ body o, macS key ((tx body ++ m ++ i8 at_ ++ tx (opB o)) ++ hashE ph m at_ body o)⟩

end Go.Proofs.YtinifnpajkldbaaDoor
