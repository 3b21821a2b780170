/- Texts laid together: GCore, GHeld, Ready. -/
import Derived.Test.YtinifnpajkldbaaDoorPk2
import Derived.Test.YtinifnpajkldbaaDoorRBytes
import Derived.Deep.RegionHeld3
import Derived.Test.YtinifnpajkldbaaDoorPk1

/- The contract of the second say's Core (chapter 9). -/
namespace Go.Proofs.YtinifnpajkldbaaDoor
open Go.RowKit
set_option linter.unusedSimpArgs false
set_option linter.unusedVariables false

theorem reads_range {w : World} {L off n : Nat} {l : List UInt8} (hl : l.length = n) (h : w.rangeAt L off (B l)) : Reads w (.slice (some ⟨L, off, none⟩) n n) (B l) := by
  refine ⟨some ⟨L, off, none⟩, n, by rw [B_length, hl], by rw [B_length, hl]; exact Nat.le_refl _, (fun h => by cases h), fun ad he j u hj => ?_⟩
  cases he
  rw [Addr.add_lit]
  exact h j u hj
section
variable {P : Program} {ops : Array Oper} (w : World)
theorem wp_append_src9 {o : Oper} {a : Act} {K : Act → World → Prop} {Q : Exit → Act → World → Prop} (s x : Operand) (t tx : TypeId)
    (ho : o.op = .call { callee := .builtin .append, args := #[s, x], argTypes := #[t, tx] })
    (e : TypeId) (i : TypeInfo) (z : Value) (ht : P.underlying t = some (.slice e)) (hi : P.info? e = some i) (hz : i.zero = some z) (hsize : i.size = 1) (hby : i.bytes = 1) (hzs : z.cells.size = 1)
    (g cap n : Nat) (xs : List Value) (hs : a.eval s = .slice (some ⟨g, 0, none⟩) n cap) (hown : Owns w e g cap n xs)
    (y : Value) (m : Nat) (news : List Value) (hx : a.eval x = y) (hsrc : Src P 1 tx y m news w) (hb : n + m ≤ 140737488355328)
    (h : ∀ g' cap' w', Grew e w g cap n xs w' g' cap' (n + m) (xs ++ news) → K (a.put o.dst (.slice (some ⟨g', 0, none⟩) (n + m) cap')) w') : o.wp P a w K Q := by
  obtain ⟨g', cap', w', hr, hG⟩ := run_append_src (P := P) w t tx o.type e i z ht hi hz hsize hby hzs g cap n xs hown y m news hsrc hb
  unfold Oper.wp execOp
  simp only [ho, resolve, invoke, builtin, Sem.run_bind, Sem.run_pure, Result.andThen_ok, List.map_toArray, List.map_cons, List.map_nil, hs, hx, hr]
  exact h g' cap' w' hG
end

set_option maxRecDepth 100000 in
set_option maxHeartbeats 400000 in
theorem fText_nil (L : Nat) (s : ByteArray) (w : World) (hB : L + 1 ≤ w.heap.size) (hs : s.size ≤ 65535) :
    Calls Tryd.prog 54 #[.slice none 0 0, .string s] w fun e w' => ∃ g cap, e = .returned (.slice (some ⟨g, 0, none⟩) (2 + s.size) cap) ∧ L < g ∧ Owns w' 5 g cap (2 + s.size) (B (tx s.data.toList)) ∧ Below (L + 1) w w' := by
  obtain ⟨i0, hi, hz0, hz1, hz2⟩ := info_parts Tryd.infoByte
  have hs' : (s.size : Int) ≤ 65535 := by omega
  have e2 : [Value.int IntKind.u8 ((s.size : Int) % 256), Value.int IntKind.u8 ((s.size : Int) / 256)] = B (le 2 s.size) := by
    have e1 : ((s.size : Int) % 256) = ((UInt8.ofNat s.size).toNat : Int) := by rw [UInt8.toNat_ofNat']; omega
    have e2 : ((s.size : Int) / 256) = ((UInt8.ofNat (s.size / 256)).toNat : Int) := by rw [UInt8.toNat_ofNat']; omega
    rw [e1, e2]
    rfl
  have HE := hid e2
  have HBA := hid (show ∀ o, L + 1 ≤ (w.alloc o).heap.size from fun o => Nat.le_trans hB (by simp))
  clear e2
  go_enter Tryd.func54, Tryd.ntmps54
  go_wp2_with (first
    | (at_builtin; refine wpList_append_has _ rfl (.tmp 10) (.tmp 18) 22 22 rfl 5 i0 (.int .u8 0) Tryd.underlying22 hi hz0 hz1 hz2 rfl (L + 1) (.slice none 0 0) 0 [] rfl (Has.nil _ _ _) (HBA.out _) _ 2 _ rfl (Src.ofSlice _ Tryd.underlying22 ⟨w.heap.size, 0, none⟩ 2 2 [_, _] rfl (fun j u hj => by rw [Addr.add_lit, Nat.zero_add]; exact (Owns.two w 5 _ _).cell hj) (by intro u hu; simp at hu; rcases hu with rfl | rfl <;> rfl)) (by omega) (by omega) ?_; intro v2 w2 hH2 hb2; obtain ⟨g2, c2, rfl, hg2, hO2⟩ := hH2.owns (by omega); have HO2 := hid hO2; have Hb2 := hid hb2; clear hH2 hb2 hO2)
    | (at_builtin; go_must (refine wpList_append_src _ rfl (.tmp 19) (.tmp 20) 22 9 rfl 5 i0 (.int .u8 0) Tryd.underlying22 hi hz0 hz1 hz2 rfl g2 c2 (0 + 2) _ rfl HO2.out _ _ _ rfl (Src.ofString _ Tryd.underlying9 s) (by omega) ?_); intro g3 c3 w3 hG3; have HG3 := hid hG3; clear hG3))
  go_ret
  have h := HG3.out.own
  rw [HE.out, byteCells_B, List.nil_append, ← B_append, Nat.zero_add] at h
  refine ⟨g3, c3, by simp, ?_, by rw [tx, size_toList]; exact h, HG3.out.below (((Below.refl _ _).alloc hB _).trans Hb2.out) (by omega)⟩
  rcases HG3.out.blk with ⟨h, _⟩ | h
  · omega
  · have := HO2.out.lt; omega

set_option maxRecDepth 100000 in
set_option maxHeartbeats 4000000 in
theorem gCore_any (e : En) (he : e.Ok) (bv ov : Value) (body : List UInt8) (o : List Cp) (w : World) (hb : Reads w bv (B body)) (hbl : body.length ≤ 400) (hv : RC w ov o) (hf : FewS o) :
    Calls Tryd.prog 26 #[.agg (e.cells bv ov).toArray] w fun x w' => ∃ g cap, x = .returned (.slice (some ⟨g, 0, none⟩) (coreN body.length o) cap) ∧ w.heap.size ≤ g ∧ Owns w' 5 g cap (coreN body.length o) (B (coreB e body o)) ∧ Below w.heap.size w w' := by
  obtain ⟨i0, hi, hz0, hz1, hz2⟩ := info_parts Tryd.infoByte
  obtain ⟨cs, hcs⟩ : ∃ cs, e.cells bv ov = cs := ⟨_, rfl⟩
  rw [hcs]
  have HCS := hid hcs
  have HE := hid he
  have HV := hid hv
  have HF := hid hf
  have HBd := hid hb
  obtain ⟨n, hn⟩ : ∃ n, body.length = n := ⟨_, rfl⟩
  obtain ⟨p, hp⟩ : ∃ p, 1 + partsN o = p := ⟨_, rfl⟩
  have hp2 : p ≤ 8051 := by have := hf.le; omega
  have HP := hid hp
  have HPL := hid (show (opB o).length = p by rw [opB_len]; exact hp)
  have HPS := hid (show (⟨(opB o).toArray⟩ : ByteArray).size = p by rw [← hp, ← opB_len]; simp [ByteArray.size])
  obtain ⟨X, hX⟩ : ∃ X : ByteArray, (⟨body.toArray⟩ : ByteArray) = X := ⟨_, rfl⟩
  have HX := hid (show X.size ≤ 65535 by rw [← hX]; simp [ByteArray.size]; omega)
  have HXN := hid (show X.size = n by rw [← hX, ← hn]; simp [ByteArray.size])
  have HXL := hid (show X.data.toList = body by rw [← hX])
  have HXE := hid hX
  rw [hn] at hbl ⊢
  obtain ⟨L, hL⟩ : ∃ L, w.heap.size = L := ⟨_, rfl⟩
  clear hcs he hv hf hb hn hp hX
  go_enter Tryd.func26, Tryd.ntmps26
  go_upto_region 1 with (show wpList _ _ _ (⟨some 1, Op.box _ _, _, _, _, _⟩ :: _) _ _; go_must (refine wpList_box_blk rfl 56 _ rfl cs rfl L hL ?_); intro w1 hB1 hb1 hs1; have HS1 := hid (show EnW w1.drew 56 L e bv ov ∧ Below L w w1.drew from ⟨⟨HE.out, by rw [HCS.out]; exact hB1.drewN 1⟩, hb1.drew⟩); clear hB1 hb1)
  -- REGION1
  refine wp_region_held_drew (S := fun w' => EnW w' 56 L e bv ov ∧ Below L w w') (by kernel_rfl) (HS1.out) (fun hHeld => ?_)
  generalize w1.drew = wd at *
  refine wpAnyH_take (i := 0) (v := .pointer (some ⟨L, 0, none⟩)) rfl (by kernel_rfl) (by kernel_rfl) (by kernel_rfl) (fun _ _ _ h => h) (Or.inl ⟨by rfl, by intro w hSw; go_simp⟩) hHeld ?_
  try simp only [Act.put, List.setIfInBounds_toArray, List.set_cons_zero, List.set_cons_succ, List.getElem_toArray, List.getElem_cons_zero, List.getElem_cons_succ]
  refine wpAnyH_take (i := 1) (v := .pointer (some ⟨L, 0, none⟩)) rfl (by kernel_rfl) (by kernel_rfl) (by kernel_rfl) (fun _ _ _ h => h) (Or.inl ⟨by rfl, by intro w hSw; go_simp⟩) hHeld ?_
  try simp only [Act.put, List.setIfInBounds_toArray, List.set_cons_zero, List.set_cons_succ, List.getElem_toArray, List.getElem_cons_zero, List.getElem_cons_succ]
  refine wpAnyH_take (i := 2) (v := bv) rfl (by kernel_rfl) (by kernel_rfl) (by kernel_rfl) (fun _ _ _ h => h) (Or.inl ⟨by rfl, by intro w hSw; have q := hSw.1.body; go_simp⟩) hHeld ?_
  try simp only [Act.put, List.setIfInBounds_toArray, List.set_cons_zero, List.set_cons_succ, List.getElem_toArray, List.getElem_cons_zero, List.getElem_cons_succ]
  refine wpAnyH_take (i := 5) (v := .pointer (some ⟨L, 0, none⟩)) rfl (by kernel_rfl) (by kernel_rfl) (by kernel_rfl) (fun _ _ _ h => h) (Or.inl ⟨by rfl, by intro w hSw; go_simp⟩) hHeld ?_
  try simp only [Act.put, List.setIfInBounds_toArray, List.set_cons_zero, List.set_cons_succ, List.getElem_toArray, List.getElem_cons_zero, List.getElem_cons_succ]
  refine wpAnyH_take (i := 6) (v := .pointer (some ⟨L, 1, none⟩)) rfl (by kernel_rfl) (by kernel_rfl) (by kernel_rfl) (fun _ _ _ h => h) (Or.inl ⟨by rfl, by intro w hSw; go_simp⟩) hHeld ?_
  try simp only [Act.put, List.setIfInBounds_toArray, List.set_cons_zero, List.set_cons_succ, List.getElem_toArray, List.getElem_cons_zero, List.getElem_cons_succ]
  refine wpAnyH_take (i := 7) (v := .slice (some ⟨L, 1, none⟩) 32 32) rfl (by kernel_rfl) (by kernel_rfl) (by kernel_rfl) (fun _ _ _ h => h) (Or.inl ⟨by rfl, by intro w hSw; go_simp⟩) hHeld ?_
  try simp only [Act.put, List.setIfInBounds_toArray, List.set_cons_zero, List.set_cons_succ, List.getElem_toArray, List.getElem_cons_zero, List.getElem_cons_succ]
  refine wpAnyH_ready (rs := [3]) (by kernel_rfl) (by simp) ?_
  refine AllReadyH.cons rfl (fun K hK => ?_) AllReadyH.nil
  have q := run_string (P := Tryd.prog) wd 22 9 5 Tryd.underlying22 Tryd.underlying5 Tryd.underlying9 (HBd.out.later (by rw [hL]; exact hHeld.2))
  go_simp
  clear q
  rw [HXE.out]
  refine hK.out _ _ (hHeld) (fun hHeld => ?_)
  clear hK K
  try simp only [Act.put, List.setIfInBounds_toArray, List.set_cons_zero, List.set_cons_succ, List.getElem_toArray, List.getElem_cons_zero, List.getElem_cons_succ]
  refine wpAnyH_ready (rs := [4]) (by kernel_rfl) (by simp) ?_
  refine AllReadyH.cons rfl (fun K hK => ?_) AllReadyH.nil
  go_simp
  refine (fText_nil L X wd (by have := hHeld.1.lt; omega) HX.out).mono ?_
  rintro _ w2 ⟨g2, c2, rfl, hg2, hO2, hb2⟩
  have hb2' : Below (L + 1) wd w2 := hb2
  rw [HXN.out, HXL.out] at hO2
  rw [HXN.out]
  refine hK.out _ _ (⟨hHeld.1.kept (hb2.block L (by omega)), hHeld.2.trans (hb2.mono (by omega))⟩) (fun hHeld => ?_)
  clear hK K
  try simp only [Act.put, List.setIfInBounds_toArray, List.set_cons_zero, List.set_cons_succ, List.getElem_toArray, List.getElem_cons_zero, List.getElem_cons_succ]
  have HO2 := hid hO2
  clear hO2 hb2 hb2'
  refine wpAnyH_ready (rs := [8]) (by kernel_rfl) (by simp) ?_
  refine AllReadyH.cons rfl (fun K hK => ?_) AllReadyH.nil
  refine Eq.mpr (if_pos (by rfl)) ?_
  refine wp_append_src9 _ _ _ 22 22 rfl 5 i0 (.int .u8 0) Tryd.underlying22 hi hz0 hz1 hz2 rfl g2 c2 (2 + n) (B (tx body)) rfl HO2.out _ 32 (B e.m1) rfl (Src.ofBytes _ Tryd.underlying22 HE.out.h1 (reads_range HE.out.h1 hHeld.1.m1)) (by omega) ?_
  intro g3 c3 w3 hG3
  refine hK.out _ _ (⟨hHeld.1.grown hG3.grown (by intro e; injection e; omega), hG3.below hHeld.2 (by omega)⟩) (fun hHeld => ?_)
  clear hK K
  try simp only [Act.put, List.setIfInBounds_toArray, List.set_cons_zero, List.set_cons_succ, List.getElem_toArray, List.getElem_cons_zero, List.getElem_cons_succ]
  have HO3 := hid (show Owns w3 5 g3 c3 (2 + n + 32) (B (tx body ++ e.m1)) by rw [B_append]; exact hG3.own)
  have hg3 : L < g3 := by
    rcases hG3.blk with ⟨h, _⟩ | h
    · omega
    · have := HO2.out.lt; omega
  clear hG3
  refine wpAnyH_ready (rs := [9]) (by kernel_rfl) (by simp) ?_
  refine AllReadyH.cons rfl (fun K hK => ?_) AllReadyH.nil
  go_simp
  refine hK.out _ _ (hHeld) (fun hHeld => ?_)
  clear hK K
  try simp only [Act.put, List.setIfInBounds_toArray, List.set_cons_zero, List.set_cons_succ, List.getElem_toArray, List.getElem_cons_zero, List.getElem_cons_succ]
  refine wpAnyH_done (by kernel_rfl) ?_ _
  have HS3 := hid hHeld
  go_upto_region 2 with fail
  -- REGION2
  refine wp_region_held_drew (S := fun w' => EnW w' 56 L e bv ov ∧ Below L w w') (by kernel_rfl) (⟨HS3.out.1.kept rfl, HS3.out.2.drew⟩) (fun hHeld => ?_)
  have HO4 := hid (show Owns w3.drew 5 g3 c3 (2 + n + 32) (B (tx body ++ e.m1)) from HO3.out)
  generalize w3.drew = we at *
  refine wpAnyH_take (i := 0) (v := .slice (some ⟨g3, 0, none⟩) (2 + n + 32) c3) rfl (by kernel_rfl) (by kernel_rfl) (by kernel_rfl) (fun _ _ _ h => h) (Or.inl ⟨by rfl, by intro w hSw; go_simp⟩) hHeld ?_
  try simp only [Act.put, List.setIfInBounds_toArray, List.set_cons_zero, List.set_cons_succ, List.getElem_toArray, List.getElem_cons_zero, List.getElem_cons_succ]
  refine wpAnyH_take (i := 1) (v := .pointer (some ⟨L, 33, none⟩)) rfl (by kernel_rfl) (by kernel_rfl) (by kernel_rfl) (fun _ _ _ h => h) (Or.inl ⟨by rfl, by intro w hSw; go_simp⟩) hHeld ?_
  try simp only [Act.put, List.setIfInBounds_toArray, List.set_cons_zero, List.set_cons_succ, List.getElem_toArray, List.getElem_cons_zero, List.getElem_cons_succ]
  refine wpAnyH_take (i := 2) (v := .int .i64 e.at_) rfl (by kernel_rfl) (by kernel_rfl) (by kernel_rfl) (fun _ _ _ h => h) (Or.inl ⟨by rfl, by intro w hSw; have q := hSw.1.at_; go_simp⟩) hHeld ?_
  try simp only [Act.put, List.setIfInBounds_toArray, List.set_cons_zero, List.set_cons_succ, List.getElem_toArray, List.getElem_cons_zero, List.getElem_cons_succ]
  refine wpAnyH_take (i := 4) (v := .pointer (some ⟨L, 34, none⟩)) rfl (by kernel_rfl) (by kernel_rfl) (by kernel_rfl) (fun _ _ _ h => h) (Or.inl ⟨by rfl, by intro w hSw; go_simp⟩) hHeld ?_
  try simp only [Act.put, List.setIfInBounds_toArray, List.set_cons_zero, List.set_cons_succ, List.getElem_toArray, List.getElem_cons_zero, List.getElem_cons_succ]
  refine wpAnyH_take (i := 5) (v := ov) rfl (by kernel_rfl) (by kernel_rfl) (by kernel_rfl) (fun _ _ _ h => h) (Or.inl ⟨by rfl, by intro w hSw; have q := hSw.1.op; go_simp⟩) hHeld ?_
  try simp only [Act.put, List.setIfInBounds_toArray, List.set_cons_zero, List.set_cons_succ, List.getElem_toArray, List.getElem_cons_zero, List.getElem_cons_succ]
  refine wpAnyH_ready (rs := [3]) (by kernel_rfl) (by simp) ?_
  refine AllReadyH.cons rfl (fun K hK => ?_) AllReadyH.nil
  go_simp
  refine (fInt_any g3 c3 (2 + n + 32) (tx body ++ e.m1) e.at_ _ HO4.out (by omega)).mono ?_
  rintro _ w4 ⟨g4, c4, rfl, hG4⟩
  refine hK.out _ _ (⟨hHeld.1.grown hG4.grown (by intro e; injection e; omega), hG4.below hHeld.2 (by omega)⟩) (fun hHeld => ?_)
  clear hK K
  try simp only [Act.put, List.setIfInBounds_toArray, List.set_cons_zero, List.set_cons_succ, List.getElem_toArray, List.getElem_cons_zero, List.getElem_cons_succ]
  have HO5 := hid (show Owns w4 5 g4 c4 (2 + n + 32 + 8) (B (tx body ++ e.m1 ++ i8 e.at_)) from hG4.own)
  have hg4 : L < g4 := by
    rcases hG4.blk with ⟨h, _⟩ | h
    · omega
    · have := HO4.out.lt; omega
  clear hG4 HO4
  refine wpAnyH_ready (rs := [6]) (by kernel_rfl) (by simp) ?_
  refine AllReadyH.cons rfl (fun K hK => ?_) AllReadyH.nil
  go_simp
  refine (rOpBytes_any ov o _ (HV.out.later (by rw [hL]; exact hHeld.2)) HF.out).mono ?_
  rintro _ w5 ⟨g5, c5, rfl, hg5, hO5, hb5⟩
  rw [HP.out] at hO5 ⊢
  refine hK.out _ _ (⟨hHeld.1.later hb5, hHeld.2.trans (hb5.mono (by have := hHeld.1.lt; omega))⟩) (fun hHeld => ?_)
  clear hK K
  try simp only [Act.put, List.setIfInBounds_toArray, List.set_cons_zero, List.set_cons_succ, List.getElem_toArray, List.getElem_cons_zero, List.getElem_cons_succ]
  have HO6 := hid (HO5.out.later hb5)
  have HOB := hid hO5
  clear hO5 hb5 hg5 HO5
  refine wpAnyH_ready (rs := [7]) (by kernel_rfl) (by simp) ?_
  refine AllReadyH.cons rfl (fun K hK => ?_) AllReadyH.nil
  have q := run_string (P := Tryd.prog) w5 22 9 5 Tryd.underlying22 Tryd.underlying5 Tryd.underlying9 HOB.out.reads
  go_simp
  clear q
  refine hK.out _ _ (hHeld) (fun hHeld => ?_)
  clear hK K
  try simp only [Act.put, List.setIfInBounds_toArray, List.set_cons_zero, List.set_cons_succ, List.getElem_toArray, List.getElem_cons_zero, List.getElem_cons_succ]
  refine wpAnyH_ready (rs := [8]) (by kernel_rfl) (by simp) ?_
  refine AllReadyH.cons rfl (fun K hK => ?_) AllReadyH.nil
  go_simp
  refine (fText_short g4 c4 (2 + n + 32 + 8) (tx body ++ e.m1 ++ i8 e.at_) ⟨(opB o).toArray⟩ _ HO6.out (by rw [HPS.out]; omega) (by rw [HPS.out]; omega)).mono ?_
  rintro _ w6 ⟨g6, c6, rfl, hG6⟩
  rw [HPS.out] at hG6 ⊢
  refine hK.out _ _ (⟨hHeld.1.grown hG6.grown (by intro e; injection e; omega), hG6.below hHeld.2 (by omega)⟩) (fun hHeld => ?_)
  clear hK K
  try simp only [Act.put, List.setIfInBounds_toArray, List.set_cons_zero, List.set_cons_succ, List.getElem_toArray, List.getElem_cons_zero, List.getElem_cons_succ]
  have HG6 := hid hG6
  clear hG6
  refine wpAnyH_ready (rs := [9]) (by kernel_rfl) (by simp) ?_
  refine AllReadyH.cons rfl (fun K hK => ?_) AllReadyH.nil
  go_simp
  refine hK.out _ _ (hHeld) (fun hHeld => ?_)
  clear hK K
  try simp only [Act.put, List.setIfInBounds_toArray, List.set_cons_zero, List.set_cons_succ, List.getElem_toArray, List.getElem_cons_zero, List.getElem_cons_succ]
  refine wpAnyH_done (by kernel_rfl) ?_ _
  go_wp2_with fail
  go_ret
  have hN : 2 + n + 32 + 8 + 2 + p = coreN n o := by rw [coreN, ← HP.out]; omega
  refine ⟨g6, c6, by rw [hN]; rfl, ?_, ?_, hHeld.2⟩
  · rcases HG6.out.blk with ⟨h, _⟩ | h
    · omega
    · have := HO6.out.lt; omega
  · have h := HG6.out.own
    rw [hN] at h
    have e1 : tx body ++ e.m1 ++ i8 e.at_ ++ le 2 p ++ (opB o) = coreB e body o := by rw [coreB, show tx (opB o) = le 2 p ++ opB o by rw [tx, HPL.out]]; simp only [List.append_assoc]
    rw [← e1]
    exact h
end Go.Proofs.YtinifnpajkldbaaDoor

/- What a drawn region holds: blocks that stay, and one that is written to; of no program. -/
namespace Go.Proofs.YtinifnpajkldbaaDoor
open Go.RowKit
set_option linter.unusedSimpArgs false
set_option linter.unusedVariables false

structure HB (L T : Nat) (w : World) (bs : List (TypeId × Nat × List Value)) (q : Nat) (tq : TypeId) (nq : Nat) (w' : World) : Prop where
  size : T ≤ w'.heap.size
  blks : ∀ b ∈ bs, b.2.1 < T ∧ b.2.1 ≠ q ∧ Blk w' b.1 b.2.1 b.2.2
  own : ∃ zs : List Value, zs.length = nq ∧ Blk w' tq q zs
  bel : Below L w w'
  lt : q < T
  le : L ≤ q
section
variable {L T : Nat} {w w' w'' : World} {bs : List (TypeId × Nat × List Value)} {q : Nat} {tq : TypeId} {nq : Nat}
theorem HB.get (h : HB L T w bs q tq nq w') {t : TypeId} {g : Nat} {cs : List Value} (hm : (t, g, cs) ∈ bs) : Blk w' t g cs := (h.blks _ hm).2.2
theorem HB.fst {t : TypeId} {g : Nat} {cs : List Value} (h : HB L T w ((t, g, cs) :: bs) q tq nq w') : Blk w' t g cs := h.get List.mem_cons_self
theorem HB.tl {b : TypeId × Nat × List Value} (h : HB L T w (b :: bs) q tq nq w') : HB L T w bs q tq nq w' := ⟨h.size, fun b' hm => h.blks b' (List.mem_cons_of_mem _ hm), h.own, h.bel, h.lt, h.le⟩
theorem HB.nil {zs : List Value} (hs : T ≤ w'.heap.size) (hz : Blk w' tq q zs) (hl : zs.length = nq) (hb : Below L w w') (h1 : q < T) (h2 : L ≤ q) : HB L T w [] q tq nq w' := ⟨hs, (fun b hm => by cases hm), ⟨zs, hl, hz⟩, hb, h1, h2⟩
theorem HB.cons {t : TypeId} {g : Nat} {cs : List Value} (h : HB L T w bs q tq nq w') (hb : Blk w' t g cs) (h1 : g < T) (h2 : g ≠ q) : HB L T w ((t, g, cs) :: bs) q tq nq w' :=
  ⟨h.size, fun b hm => by
    rcases List.mem_cons.1 hm with rfl | hm
    · exact ⟨h1, h2, hb⟩
    · exact h.blks b hm, h.own, h.bel, h.lt, h.le⟩
theorem HB.later (h : HB L T w bs q tq nq w') (hb : Below w'.heap.size w' w'') : HB L T w bs q tq nq w'' :=
  ⟨Nat.le_trans h.size hb.size, fun b hm => ⟨(h.blks b hm).1, (h.blks b hm).2.1, (h.blks b hm).2.2.later hb⟩, by
    obtain ⟨zs, h1, h2⟩ := h.own
    exact ⟨zs, h1, h2.later hb⟩, h.bel.trans (hb.mono (by have := h.size; have := h.lt; have := h.le; omega)), h.lt, h.le⟩
theorem HB.grow (h : HB L T w bs q tq nq w') {g : Nat} (hg : w'.grownBy w'' (some g)) (hT : T ≤ g) : HB L T w bs q tq nq w'' := by
  have h1 := h.lt
  have h2 := h.le
  have h3 := h.size
  refine ⟨Nat.le_trans h.size hg.size, fun b hm => ?_, ?_, h.bel.grown hg (by omega) (fun k hk => by injection hk; omega), h.lt, h.le⟩
  · obtain ⟨a1, a2, a3⟩ := h.blks b hm
    exact ⟨a1, a2, a3.kept (hg.block _ a3.lt (by intro e; injection e; omega))⟩
  · obtain ⟨zs, a1, a2⟩ := h.own
    exact ⟨zs, a1, a2.kept (hg.block _ a2.lt (by intro e; injection e; omega))⟩
theorem HB.alloc (h : HB L T w bs q tq nq w') (o : Obj) : HB L T w bs q tq nq (w'.alloc o) := h.later ((Below.refl _ _).alloc (Nat.le_refl _) o)
theorem HB.drew (h : HB L T w bs q tq nq w') : HB L T w bs q tq nq w'.drew := ⟨h.size, h.blks, h.own, h.bel.drew, h.lt, h.le⟩
theorem HB.low (h : HB L T w bs q tq nq w') : L < w'.heap.size := by have := h.size; have := h.lt; have := h.le; omega
theorem HB.there (h : HB L T w bs q tq nq w') {o n : Nat} (hn : o + n ≤ nq) : w'.there q o n := by
  obtain ⟨zs, h1, h2⟩ := h.own
  exact h2.there (by omega)
theorem HB.whole (h : HB L T w bs q tq nq w') {vs : List Value} (hn : vs.length = nq) : Blk (w'.setCells q 0 vs) tq q vs := by
  obtain ⟨zs, h1, h2⟩ := h.own
  have h3 := Blk.setCells vs [] zs [] (o := 0) (by simpa using h2) (by omega) rfl
  simpa using h3
theorem HB.store (h : HB L T w bs q tq nq w') (vs : List Value) (o : Nat) (hn : o + vs.length ≤ nq) : HB L T w bs q tq nq (w'.setCells q o vs) := by
  have hz : ∀ (vs : List Value) (o : Nat) (w : World), (w.setCells q o vs).heap.size = w.heap.size := by
    intro vs
    induction vs with
    | nil => intro o w; rfl
    | cons v vs ih => intro o w; rw [World.setCells, ih]; simp [World.setCell]
  refine ⟨by rw [hz]; exact h.size, fun b hm => ?_, ?_, below_setCells h.le vs o h.bel, h.lt, h.le⟩
  · obtain ⟨a1, a2, a3⟩ := h.blks b hm
    exact ⟨a1, a2, a3.kept (setCells_heap a2 vs o w')⟩
  · obtain ⟨zs, a1, a2⟩ := h.own
    have e : zs = zs.take o ++ (zs.drop o).take vs.length ++ zs.drop (o + vs.length) := by
      rw [List.append_assoc, ← List.drop_drop, List.take_append_drop, List.take_append_drop]
    have h1 : ((zs.drop o).take vs.length).length = vs.length := by rw [List.length_take, List.length_drop]; omega
    have h2 : (zs.take o).length = o := by rw [List.length_take]; omega
    have h3 := Blk.setCells vs (zs.take o) ((zs.drop o).take vs.length) (zs.drop (o + vs.length)) (o := o) (by rw [← e]; exact a2) h1 h2
    exact ⟨_, by rw [List.length_append, List.length_append, h2, List.length_drop]; omega, h3⟩
end

/-- The same, with no block that is written to. -/
structure HK (L T : Nat) (w : World) (bs : List (TypeId × Nat × List Value)) (w' : World) : Prop where
  size : T ≤ w'.heap.size
  blks : ∀ b ∈ bs, b.2.1 < T ∧ Blk w' b.1 b.2.1 b.2.2
  bel : Below L w w'
  le : L < T
section
variable {L T : Nat} {w w' w'' : World} {bs : List (TypeId × Nat × List Value)}
theorem HK.fst {t : TypeId} {g : Nat} {cs : List Value} (h : HK L T w ((t, g, cs) :: bs) w') : Blk w' t g cs := (h.blks _ List.mem_cons_self).2
theorem HK.tl {b : TypeId × Nat × List Value} (h : HK L T w (b :: bs) w') : HK L T w bs w' := ⟨h.size, fun b' hm => h.blks b' (List.mem_cons_of_mem _ hm), h.bel, h.le⟩
theorem HK.nil (hs : T ≤ w'.heap.size) (hb : Below L w w') (h1 : L < T) : HK L T w [] w' := ⟨hs, (fun b hm => by cases hm), hb, h1⟩
theorem HK.cons {t : TypeId} {g : Nat} {cs : List Value} (h : HK L T w bs w') (hb : Blk w' t g cs) (h1 : g < T) : HK L T w ((t, g, cs) :: bs) w' :=
  ⟨h.size, fun b hm => by
    rcases List.mem_cons.1 hm with rfl | hm
    · exact ⟨h1, hb⟩
    · exact h.blks b hm, h.bel, h.le⟩
theorem HK.later (h : HK L T w bs w') (hb : Below w'.heap.size w' w'') : HK L T w bs w'' :=
  ⟨Nat.le_trans h.size hb.size, fun b hm => ⟨(h.blks b hm).1, (h.blks b hm).2.later hb⟩, h.bel.trans (hb.mono (by have := h.size; have := h.le; omega)), h.le⟩
theorem HK.grow (h : HK L T w bs w') {g : Nat} (hg : w'.grownBy w'' (some g)) (hT : T ≤ g) : HK L T w bs w'' := by
  have h2 := h.le
  have h3 := h.size
  refine ⟨Nat.le_trans h.size hg.size, fun b hm => ?_, h.bel.grown hg (by omega) (fun k hk => by injection hk; omega), h.le⟩
  obtain ⟨a1, a3⟩ := h.blks b hm
  exact ⟨a1, a3.kept (hg.block _ a3.lt (by intro e; injection e; omega))⟩
theorem HK.alloc (h : HK L T w bs w') (o : Obj) : HK L T w bs (w'.alloc o) := h.later ((Below.refl _ _).alloc (Nat.le_refl _) o)
theorem HK.drew (h : HK L T w bs w') : HK L T w bs w'.drew := ⟨h.size, h.blks, h.bel.drew, h.le⟩
theorem HK.low (h : HK L T w bs w') : L < w'.heap.size := by have := h.size; have := h.le; omega
end
end Go.Proofs.YtinifnpajkldbaaDoor

/- Ready operations of a drawn region: a new variable, a row of cells stored. -/
namespace Go.Proofs.YtinifnpajkldbaaDoor
open Go.RowKit
set_option linter.unusedSimpArgs false
set_option linter.unusedVariables false

section
variable {P : Program} {w : World}
theorem wp_alloc_blk {o : Oper} {a : Act} {K : Act → World → Prop} {Q : Exit → Act → World → Prop} (t : TypeId) (ho : o.op = .alloc t)
    (cs : List Value) (hz : (P.info? t).bind (fun i => i.zero.map fun z => z.cells.toList) = some cs) (N : Nat) (hN : w.heap.size = N)
    (h : ∀ w', Blk w' t N cs → Below N w w' → w'.heap.size = N + 1 → K (a.put o.dst (.pointer (some ⟨N, 0, none⟩))) w') : o.wp P a w K Q := by
  subst hN
  cases hi : P.info? t with
  | none => simp [hi] at hz
  | some i =>
    cases hz0 : i.zero with
    | none => simp [hi, hz0] at hz
    | some z =>
      have hc : z.cells.toList = cs := by simpa [hi, hz0] using hz
      subst hc
      unfold Oper.wp
      simp [execOp, ho, Instr.alloc, zeroValue, typeInfo, hi, hz0, newVar, Result.andThen]
      exact h _ (Blk.new w t _) ((Below.refl _ _).alloc (Nat.le_refl _) _) (by simp)

theorem wp_store_list {o : Oper} {a : Act} {K : Act → World → Prop} {Q : Exit → Act → World → Prop} (ty : TypeId) (x y : Operand) (ho : o.op = .store ty x y)
    (b off : Nat) (cs : List Value) (hx : a.eval x = .pointer (some ⟨b, off, none⟩)) (hy : a.eval y = .agg cs.toArray)
    (ht : w.there b off cs.length) (hi : (P.info? ty).map (·.size) = some cs.length) (h1 : ∀ v ∈ cs, v.oneCell' = true)
    (h : ∀ w', w' = w.setCells b off cs → K (a.put o.dst undef) w') : o.wp P a w K Q :=
  wp_store_mid ty x y ho b off cs.toArray hx hy (by simpa using ht) (by simpa using hi) (all_oneCell_toArray h1) (h _ (by simp))
end
end Go.Proofs.YtinifnpajkldbaaDoor
