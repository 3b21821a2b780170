/- Texts laid together: GCheck, SameS, NeqC, RefSame, MSame. -/
import Derived.Test.YtinifnpajkldbaaDoorPk6
import Derived.Test.YtinifnpajkldbaaDoorMacRef
import Derived.Stop.BytesEq
import Derived.Deep.RegionHeld3
import Derived.Test.YtinifnpajkldbaaDoorPk1
import Derived.Test.YtinifnpajkldbaaDoorPk4
import Derived.WalkLawsBesides
import Derived.Laws.StructEq

/- The contract of the second say's Check (chapter 9). -/
namespace Go.Proofs.YtinifnpajkldbaaDoor
open Go.RowKit
set_option linter.unusedSimpArgs false
set_option linter.unusedVariables false

theorem sizeB9 (w : World) : (sizeOf 5).run Tryd.prog w = .ok 1 w := by
  have h : (Tryd.prog.info? 5).map (·.size) = some 1 := by kernel_rfl
  cases hi : Tryd.prog.info? 5 with
  | none => simp [hi] at h
  | some i => simp [hi] at h; simp [sizeOf, typeInfo, hi, h]
theorem equal_hash9 (w : World) (l m : List UInt8) (hl : l.length = 32) (hm : m.length = 32) : (Op.equalIn 10000 26 (.agg (B l).toArray) (.agg (B m).toArray)).run Tryd.prog w = .ok (l == m) w :=
  run_equalIn_bytes (P := Tryd.prog) w 9998 26 5 32 Tryd.underlying26 Tryd.underlying5 sizeB9 l m hl hm

/-- Is an entry's sign its host's? -/
def chkE (K : Nat → List UInt8) (host : Int) (e : En) (body : List UInt8) (o : List Cp) : Bool :=
  if host < 0 ∨ 3 ≤ host then false else e.mac == macS (K host.toNat) (coreB e body o ++ e.hash)

set_option maxRecDepth 100000 in
set_option maxHeartbeats 4000000 in
theorem gCheck_any (ks : List Value) (KY : Nat → List UInt8) (host : Int) (e : En) (he : e.Ok) (bv ov : Value) (body : List UInt8) (o : List Cp) (w : World) (hk : KW w ks KY) (hb : Reads w bv (B body)) (hbl : body.length ≤ 400) (hv : RC w ov o) (hf : FewS o) :
    Calls Tryd.prog 28 #[.agg ks.toArray, .int .i64 host, .agg (e.cells bv ov).toArray] w fun x w' => x = .returned (.bool (chkE KY host e body o)) ∧ Below w.heap.size w w' := by
  obtain ⟨i0, hi, hz0, hz1, hz2⟩ := info_parts Tryd.infoByte
  obtain ⟨cs, hcs⟩ : ∃ cs, e.cells bv ov = cs := ⟨_, rfl⟩
  have HCS := hid hcs
  have HCL := hid (show cs.length = 99 by rw [← hcs]; exact En.len he)
  obtain ⟨L, hL⟩ : ∃ L, w.heap.size = L := ⟨_, rfl⟩
  obtain ⟨N, hN⟩ : ∃ N, coreN body.length o = N := ⟨_, rfl⟩
  obtain ⟨core, hcore⟩ : ∃ core, coreB e body o = core := ⟨_, rfl⟩
  have HNL := hid (show core.length = N by rw [← hcore, ← hN]; exact coreB_len he body o)
  have hN2 : N ≤ 8600 := by rw [← hN, coreN]; have := hf.le; omega
  have GC := hid (show ∀ wx, Below L w wx → Calls Tryd.prog 26 #[.agg cs.toArray] wx (fun x w' => ∃ g cap, x = .returned (.slice (some ⟨g, 0, none⟩) N cap) ∧ wx.heap.size ≤ g ∧ Owns w' 5 g cap N (B core) ∧ Below wx.heap.size wx w') from fun wx h => by
    have := gCore_any e he bv ov body o wx (hb.later (by rw [hL]; exact h)) hbl (hv.later (by rw [hL]; exact h)) hf
    rw [hcs, hN, hcore] at this
    exact this)
  have HCH := hid (show chkE KY host e body o = if host < 0 ∨ 3 ≤ host then false else e.mac == macS (KY host.toNat) (core ++ e.hash) by rw [chkE, hcore])
  have HE := hid he
  have HIE := hid (show (Tryd.prog.info? 56).map (·.size) = some 99 by kernel_rfl)
  have HIH := hid (show (Tryd.prog.info? 26).map (·.size) = some 32 by kernel_rfl)
  have HCW := hid (show ∀ wx, Blk wx 56 (L + 1) cs → wx.rangeAt (L + 1) 0 cs from fun wx h => h.range fun j v hv => by rw [Nat.zero_add]; exact hv)
  obtain ⟨ms, hms⟩ : ∃ ms, B e.mac = ms := ⟨_, rfl⟩
  have HML := hid (show ms.length = 32 by rw [← hms, B_length, he.h3])
  have HEW := hid (show ∀ wx, Blk wx 56 (L + 1) cs → wx.rangeAt (L + 1) 67 ms from fun wx h => by rw [← hms]; exact (EnW.mk he (by rw [hcs]; exact h) : EnW wx 56 (L + 1) e bv ov).mac)
  have HEH := hid (show ∀ wx, Blk wx 56 (L + 1) cs → wx.rangeAt (L + 1) 35 (B e.hash) from fun wx h => (EnW.mk he (by rw [hcs]; exact h) : EnW wx 56 (L + 1) e bv ov).hash)
  have HKW := hid hk
  generalize hr : chkE KY host e body o = r at *
  rw [hcs]
  have HMS := hid hms
  clear hcs hb hv hf he hN hcore hk hms hr
  go_enter Tryd.func28, Tryd.ntmps28
  go_upto_region 1 with (first
    | (show wpList _ _ _ (⟨some 3, Op.box _ _, _, _, _, _⟩ :: _) _ _; go_must (refine wpList_box_blk rfl 35 _ rfl ks rfl L hL ?_); intro w1 hB1 hb1 hs1; have HB1 := hid hB1; have Hb1 := hid hb1; clear hB1 hb1)
    | (show wpList _ _ _ (⟨some 5, Op.box _ _, _, _, _, _⟩ :: _) _ _; go_must (refine wpList_box_blk rfl 56 _ rfl cs rfl (L + 1) hs1 ?_); intro w2 hB2 hb2 hs2; have HB2 := hid hB2; have Hb2 := hid hb2; clear hB2 hb2))
  -- REGION1
  have HB := hid (show Below L w w2 from Hb1.out.trans (Hb2.out.mono (by omega)))
  by_cases h0 : host < 0
  · have HR := hid (show r = false by rw [HCH.out, if_pos (Or.inl h0)])
    go_wp2_with fail
    go_ret
    exact ⟨by rw [HR.out]; rfl, by first | exact HB.out | (rw [hL]; exact HB.out)⟩
  by_cases h3 : 3 ≤ host
  · have HR := hid (show r = false by rw [HCH.out, if_pos (Or.inr h3)])
    go_wp2_with fail
    go_ret
    exact ⟨by rw [HR.out]; rfl, by first | exact HB.out | (rw [hL]; exact HB.out)⟩
  obtain ⟨j, hj⟩ : ∃ j : Nat, host = (j : Int) := ⟨host.toNat, by omega⟩
  subst hj
  have hj3 : j < 3 := by omega
  have hj3' : (j : Int) < 3 := by omega
  have hj0' : ¬ (j : Int) < 0 := by omega
  obtain ⟨ka, kn, kc, k1, k2, k3, k4, k5⟩ := HKW.out.get j hj3
  have HKJ := hid k1
  have HKN := hid k2
  have HK2 := hid k3
  have HKR := hid k5
  obtain ⟨mc, hmc⟩ : ∃ mc, macS (KY j) (core ++ e.hash) = mc := ⟨_, rfl⟩
  have HMC := hid hmc
  have HEQ := hid (show ∀ wx, (Op.equalIn 10000 26 (.agg ms.toArray) (.agg (B mc).toArray)).run Tryd.prog wx = .ok (e.mac == mc) wx from fun wx => by rw [← HMS.out]; exact equal_hash9 wx e.mac mc HE.out.h3 (by rw [← hmc]; exact macS_len _ _))
  have HR := hid (show r = (e.mac == mc) by rw [HCH.out, if_neg (by omega), Int.toNat_natCast, hmc])
  clear k1 k2 k3 k4 k5 hmc h0 h3 HCH
  go_upto_region 3 with fail
  have HS := hid (show HK L (L + 2) w [(56, L + 1, cs), (35, L, ks)] w2.drew from by
    refine HK.drew (HK.cons (HK.cons (HK.nil (by omega) HB.out (by omega)) ?_ (by omega)) ?_ (by omega))
    · exact HB1.out.kept (Hb2.out.block L (by omega))
    · exact HB2.out)
  clear hs1 hs2 HB1 HB2 Hb1 Hb2 HB
  -- REGION3
  refine wp_region_held_drew (S := fun w' => HK L (L + 2) w [(56, L + 1, cs), (35, L, ks)] w') (by kernel_rfl) (HS.out) (fun hHeld => ?_)
  generalize w2.drew = wd at *
  refine wpAnyH_take (i := 0) (v := .pointer (some ⟨L + 1, 67, none⟩)) rfl (by kernel_rfl) (by kernel_rfl) (by kernel_rfl) (fun _ _ _ h => h) (Or.inl ⟨by rfl, by intro w hSw; go_simp⟩) hHeld ?_
  try simp only [Act.put, List.setIfInBounds_toArray, List.set_cons_zero, List.set_cons_succ, List.getElem_toArray, List.getElem_cons_zero, List.getElem_cons_succ]
  refine wpAnyH_take (i := 1) (v := _) rfl (by kernel_rfl) (by kernel_rfl) (by kernel_rfl) (fun _ _ _ h => h) (yieldsIf_load_mid (by rfl) _ _ rfl _ _ rfl ms _ (fun w hSw => ((HEW.out _ hSw.fst))) Tryd.underlying26 rfl (by rw [HML.out]; exact HIH.out)) hHeld ?_
  try simp only [Act.put, List.setIfInBounds_toArray, List.set_cons_zero, List.set_cons_succ, List.getElem_toArray, List.getElem_cons_zero, List.getElem_cons_succ]
  refine wpAnyH_take (i := 2) (v := .int .i64 (j : Int)) rfl (by kernel_rfl) (by kernel_rfl) (by kernel_rfl) (fun _ _ _ h => h) (Or.inl ⟨by rfl, by intro w hSw; go_simp⟩) hHeld ?_
  try simp only [Act.put, List.setIfInBounds_toArray, List.set_cons_zero, List.set_cons_succ, List.getElem_toArray, List.getElem_cons_zero, List.getElem_cons_succ]
  refine wpAnyH_take (i := 3) (v := .pointer (some ⟨L, j, none⟩)) rfl (by kernel_rfl) (by kernel_rfl) (by kernel_rfl) (fun _ _ _ h => h) (Or.inl ⟨by rfl, by intro w hSw; go_simp⟩) hHeld ?_
  try simp only [Act.put, List.setIfInBounds_toArray, List.set_cons_zero, List.set_cons_succ, List.getElem_toArray, List.getElem_cons_zero, List.getElem_cons_succ]
  refine wpAnyH_take (i := 4) (v := .slice ka kn kc) rfl (by kernel_rfl) (by kernel_rfl) (by kernel_rfl) (fun _ _ _ h => h) (Or.inl ⟨by rfl, by intro w hSw; have q := hSw.tl.fst.cell HKJ.out; go_simp⟩) hHeld ?_
  try simp only [Act.put, List.setIfInBounds_toArray, List.set_cons_zero, List.set_cons_succ, List.getElem_toArray, List.getElem_cons_zero, List.getElem_cons_succ]
  refine wpAnyH_take (i := 5) (v := _) rfl (by kernel_rfl) (by kernel_rfl) (by kernel_rfl) (fun _ _ _ h => h) (yieldsIf_load_mid (by rfl) _ _ rfl _ _ rfl cs _ (fun w hSw => (HCW.out _ hSw.fst)) Tryd.underlying56 rfl (by rw [HCL.out]; exact HIE.out)) hHeld ?_
  try simp only [Act.put, List.setIfInBounds_toArray, List.set_cons_zero, List.set_cons_succ, List.getElem_toArray, List.getElem_cons_zero, List.getElem_cons_succ]
  refine wpAnyH_take (i := 7) (v := .pointer (some ⟨L + 1, 35, none⟩)) rfl (by kernel_rfl) (by kernel_rfl) (by kernel_rfl) (fun _ _ _ h => h) (Or.inl ⟨by rfl, by intro w hSw; go_simp⟩) hHeld ?_
  try simp only [Act.put, List.setIfInBounds_toArray, List.set_cons_zero, List.set_cons_succ, List.getElem_toArray, List.getElem_cons_zero, List.getElem_cons_succ]
  refine wpAnyH_take (i := 8) (v := .slice (some ⟨L + 1, 35, none⟩) 32 32) rfl (by kernel_rfl) (by kernel_rfl) (by kernel_rfl) (fun _ _ _ h => h) (Or.inl ⟨by rfl, by intro w hSw; go_simp⟩) hHeld ?_
  try simp only [Act.put, List.setIfInBounds_toArray, List.set_cons_zero, List.set_cons_succ, List.getElem_toArray, List.getElem_cons_zero, List.getElem_cons_succ]
  refine wpAnyH_ready (rs := [6]) (by kernel_rfl) (by simp) ?_
  refine AllReadyH.cons rfl (fun K hK => ?_) AllReadyH.nil
  go_simp
  refine (GC.out _ hHeld.bel).mono ?_
  have HSZ := hid hHeld.size
  rintro _ w5 ⟨g2, c2, rfl, hg2, hO2, hb2⟩
  refine hK.out _ _ (hHeld.later hb2) (fun hHeld => ?_)
  clear hK K
  try simp only [Act.put, List.setIfInBounds_toArray, List.set_cons_zero, List.set_cons_succ, List.getElem_toArray, List.getElem_cons_zero, List.getElem_cons_succ]
  have hg2' : L + 2 ≤ g2 := by have := HSZ.out; omega
  have HO2 := hid hO2
  clear hO2 hb2
  refine wpAnyH_ready (rs := [9]) (by kernel_rfl) (by simp) ?_
  refine AllReadyH.cons rfl (fun K hK => ?_) AllReadyH.nil
  refine Eq.mpr (if_pos (by rfl)) ?_
  refine wp_append_src9 _ _ _ 22 22 rfl 5 i0 (.int .u8 0) Tryd.underlying22 hi hz0 hz1 hz2 rfl g2 c2 N (B core) rfl HO2.out _ 32 (B e.hash) rfl (Src.ofBytes _ Tryd.underlying22 HE.out.h2 (reads_range HE.out.h2 (HEH.out _ hHeld.fst))) (by omega) ?_
  intro g3 c3 w6 hG3
  refine hK.out _ _ (hHeld.grow hG3.grown (by omega)) (fun hHeld => ?_)
  clear hK K
  try simp only [Act.put, List.setIfInBounds_toArray, List.set_cons_zero, List.set_cons_succ, List.getElem_toArray, List.getElem_cons_zero, List.getElem_cons_succ]
  have HO4 := hid (show Owns w6 5 g3 c3 (N + 32) (B (core ++ e.hash)) by rw [B_append]; exact hG3.own)
  clear hG3 HO2
  refine wpAnyH_ready (rs := [10]) (by kernel_rfl) (by simp) ?_
  refine AllReadyH.cons rfl (fun K hK => ?_) AllReadyH.nil
  go_simp
  refine (refMac_any (KY j) ka kn kc HKN.out (core ++ e.hash) _ (N + 32) c3 (by rw [List.length_append, HNL.out, HE.out.h2]) _ (HKR.out.later (by rw [hL]; exact hHeld.bel)) HO4.out.reads (by have := HK2.out; omega) (by omega)).mono ?_
  rintro _ w7 ⟨rfl, hb7⟩
  rw [HMC.out]
  refine hK.out _ _ (hHeld.later hb7) (fun hHeld => ?_)
  clear hK K
  try simp only [Act.put, List.setIfInBounds_toArray, List.set_cons_zero, List.set_cons_succ, List.getElem_toArray, List.getElem_cons_zero, List.getElem_cons_succ]
  clear hb7 HO4
  refine wpAnyH_take (i := 11) (v := .bool (e.mac == mc)) rfl (by kernel_rfl) (by kernel_rfl) (by kernel_rfl) (fun _ _ _ h => h) (Or.inl ⟨by rfl, by intro w hSw; have q := HEQ.out w; go_simp⟩) hHeld ?_
  try simp only [Act.put, List.setIfInBounds_toArray, List.set_cons_zero, List.set_cons_succ, List.getElem_toArray, List.getElem_cons_zero, List.getElem_cons_succ]
  refine wpAnyH_ready (rs := [12]) (by kernel_rfl) (by simp) ?_
  refine AllReadyH.cons rfl (fun K hK => ?_) AllReadyH.nil
  go_simp
  refine hK.out _ _ (hHeld) (fun hHeld => ?_)
  clear hK K
  try simp only [Act.put, List.setIfInBounds_toArray, List.set_cons_zero, List.set_cons_succ, List.getElem_toArray, List.getElem_cons_zero, List.getElem_cons_succ]
  refine wpAnyH_done (by kernel_rfl) ?_ _
  go_wp2_with fail
  go_ret
  exact ⟨by rw [HR.out]; rfl, by first | exact hHeld.bel | (rw [hL]; exact hHeld.bel)⟩
end Go.Proofs.YtinifnpajkldbaaDoor

/- Two operations held against each other, as a function of lists; of no program. -/
namespace Go.Proofs.YtinifnpajkldbaaDoor

def sameC (a b : Cp) : Bool := (a.k == b.k) && ((a.n == b.n) && (a.s.toList == b.s.toList))
theorem sameC_iff (a b : Cp) : sameC a b = true ↔ a = b := by
  obtain ⟨k, n, s⟩ := a
  obtain ⟨k', n', s'⟩ := b
  simp only [sameC, Bool.and_eq_true, beq_iff_eq, Cp.mk.injEq, ByteArray.toList_eq]
  constructor
  · rintro ⟨h1, h2, h3⟩
    exact ⟨h1, h2, ByteArray.ext (Array.ext' h3)⟩
  · rintro ⟨h1, h2, h3⟩
    exact ⟨h1, h2, by rw [h3]⟩

def sameL : List Cp → List Cp → Bool
  | [], [] => true
  | x :: a, y :: b => sameC x y && sameL a b
  | _, _ => false
theorem sameL_iff : ∀ (a b : List Cp), sameL a b = true ↔ a = b
  | [], [] => by simp [sameL]
  | x :: a, y :: b => by
    simp only [sameL, Bool.and_eq_true, sameC_iff, sameL_iff a b, List.cons.injEq]
  | [], _ :: _ => by simp [sameL]
  | _ :: _, [] => by simp [sameL]
theorem sameL_len {a b : List Cp} (h : a.length ≠ b.length) : sameL a b = false := by
  cases hs : sameL a b with
  | false => rfl
  | true => exact absurd (by rw [(sameL_iff a b).1 hs]) h
theorem sameL_self (a : List Cp) : sameL a a = true := (sameL_iff a a).2 rfl
theorem sameL_ne {a b : List Cp} (h : a ≠ b) : sameL a b = false := by
  cases hs : sameL a b with
  | false => rfl
  | true => exact absurd ((sameL_iff a b).1 hs) h
end Go.Proofs.YtinifnpajkldbaaDoor

/- Two parts held against each other. -/
namespace Go.Proofs.YtinifnpajkldbaaDoor
open Go.RowKit
set_option linter.unusedSimpArgs false
set_option linter.unusedVariables false

theorem neq_c (w : World) (x y : Cp) : (binOp .neq 62 (.agg #[.int .i64 x.k, .int .i64 x.n, .string x.s]) (.agg #[.int .i64 y.k, .int .i64 y.n, .string y.s])).run Tryd.prog w = .ok (.bool (!sameC x y)) w := by
  have hS : Tryd.prog.underlying 62 = some (.struct (Tryd.prog.fieldsOf 62)) := by kernel_rfl
  have hp : Tryd.prog.stoodInHeld 62 = false := by kernel_rfl
  rw [run_neq_struct, show (10000 : Nat) = 9999 + 1 from rfl, run_equalIn_agg w 9999 62 _ _ hS hp]
  simp only [Program.fieldsOf, Tryd.underlying62]
  go_simp
  unfold sameC
  by_cases h1 : x.k = y.k <;> by_cases h2 : x.n = y.n <;> by_cases h3 : x.s.toList = y.s.toList <;> simp [h1, h2, h3]
end Go.Proofs.YtinifnpajkldbaaDoor

/- The contract of the second say's Same. -/
namespace Go.Proofs.YtinifnpajkldbaaDoor
open Go.RowKit
set_option linter.unusedSimpArgs false
set_option linter.unusedVariables false

set_option maxRecDepth 100000 in
set_option maxHeartbeats 2000000 in
theorem refSame_any (va vb : Value) (a b : List Cp) (w : World) (ha : RC w va a) (hb : RC w vb b) (hla : a.length ≤ 1048576) (hlb : b.length ≤ 1048576) :
    Calls Tryd.prog 36 #[va, vb] w fun e w' => e = .returned (.bool (sameL a b)) ∧ Below w.heap.size w w' := by
  obtain ⟨aa, ca, rfl⟩ := ha.form
  obtain ⟨ab, cb, rfl⟩ := hb.form
  have HA := hid ha
  have HB := hid hb
  clear ha hb
  by_cases hl : a.length = b.length
  case neg =>
    have HS := hid (sameL_len hl)
    have hne : ((a.length : Int) == (b.length : Int)) = false := by simp; omega
    go_enter Tryd.func36, Tryd.ntmps36
    go_wp2
    go_ret
    exact ⟨by rw [HS.out]; rfl, Below.refl _ _⟩
  have HL := hid hl
  have heq : ((b.length : Int) == (b.length : Int)) = true := by simp
  rw [hl] at HA ⊢
  clear hl
  obtain ⟨n, hn⟩ : ∃ n, b.length = n := ⟨_, rfl⟩
  rw [hn] at HA HB hlb heq ⊢
  have HN := hid hn
  clear hn hla
  go_enter Tryd.func36, Tryd.ntmps36
  go_wp2
  go_loopw [5] (fun i wr => ∃ j : Nat, j ≤ n ∧ i = .int .i64 j ∧ sameL (a.drop j) (b.drop j) = sameL a b ∧ Below w.heap.size w wr) (fun i _ => n - (intOf i).toNat)
  case atStart => exact ⟨0, Nat.zero_le _, rfl, rfl, Below.refl _ _⟩
  case round =>
    obtain ⟨j, hj, rfl, hx, hb⟩ := hrel
    have Hb := hid hb
    have HX := hid hx
    clear hb hx
    by_cases hlt : j < n
    · have hlt' : (j : Int) < (n : Int) := by omega
      obtain ⟨x, hxa⟩ : ∃ c, a[j]? = some c := ⟨_, List.getElem?_eq_getElem (by have := HL.out; have := HN.out; omega)⟩
      obtain ⟨y, hyb⟩ : ∃ c, b[j]? = some c := ⟨_, List.getElem?_eq_getElem (by have := HN.out; omega)⟩
      obtain ⟨ga, oa, ca', e, hcapa, hra, hga⟩ := HA.out.place (by have := HL.out; have := HN.out; omega)
      injection e with e1 e2 e3
      subst e1 e3
      obtain ⟨gb, ob, cb', e, hcapb, hrb, hgb⟩ := HB.out.place (by have := HN.out; omega)
      injection e with e1 e4 e3
      subst e1 e3
      obtain ⟨x0, x1, x2⟩ := RC.cells hra hxa
      obtain ⟨y0, y1, y2⟩ := RC.cells hrb hyb
      replace x0 := cell_later Hb.out x0
      replace x1 := cell_later Hb.out x1
      replace x2 := cell_later Hb.out x2
      replace y0 := cell_later Hb.out y0
      replace y1 := cell_later Hb.out y1
      replace y2 := cell_later Hb.out y2
      have HD := hid (show sameL (a.drop j) (b.drop j) = (sameC x y && sameL (a.drop (j + 1)) (b.drop (j + 1))) by rw [drop_cons' a j x hxa, drop_cons' b j y hyb]; rfl)
      have hneq := fun wx => neq_c wx x y
      clear hra hrb hxa hyb e2 e4 hcapa hcapb
      by_cases hs : sameC x y = true
      · rw [hs] at hneq
        have HR := hid (show sameL (a.drop (j + 1)) (b.drop (j + 1)) = sameL a b by rw [← HX.out, HD.out, hs]; rfl)
        clear hs
        go_wp2_with fail
        go_region
        all_goals
          go_wp2_with fail
          go_roundw
          case rel => exact ⟨j + 1, by omega, by go_num, HR.out, Hb.out.drew⟩
          case measure => simp [intOf]; omega
      · have hs2 : sameC x y = false := by simpa using hs
        rw [hs2] at hneq
        have HR := hid (show sameL a b = false by rw [← HX.out, HD.out, hs2]; rfl)
        clear hs hs2
        go_wp2_with fail
        go_region
        all_goals
          go_wp2_with fail
          go_ret
          exact ⟨by rw [HR.out]; rfl, Hb.out.drew⟩
    · have hj2 : j = n := by omega
      subst hj2
      have HR := hid (show sameL a b = true by rw [← HX.out, List.drop_of_length_le (by have := HL.out; have := HN.out; omega), List.drop_of_length_le (by have := HN.out; omega)]; rfl)
      go_wp2
      go_ret
      exact ⟨by rw [HR.out]; rfl, Hb.out⟩
end Go.Proofs.YtinifnpajkldbaaDoor

/- The contract of the second say's Same of two deltas (chapter 8), where they are the same. -/
namespace Go.Proofs.YtinifnpajkldbaaDoor
open Go.RowKit
set_option linter.unusedSimpArgs false
set_option linter.unusedVariables false

theorem eql_addr9 (w : World) (a b c d : Int) : (binOp .eql 24 (.agg #[.int .i64 a, .int .i64 b]) (.agg #[.int .i64 c, .int .i64 d])).run Tryd.prog w = .ok (.bool (a == c && b == d)) w := by
  have hS : Tryd.prog.underlying 24 = some (.struct (Tryd.prog.fieldsOf 24)) := by kernel_rfl
  have hp : Tryd.prog.stoodInHeld 24 = false := by kernel_rfl
  have h0 : (binOp .eql 24 (.agg #[.int .i64 a, .int .i64 b]) (.agg #[.int .i64 c, .int .i64 d])).run Tryd.prog w = (Op.equalIn 10000 24 (.agg #[.int .i64 a, .int .i64 b]) (.agg #[.int .i64 c, .int .i64 d]) |>.run Tryd.prog w).andThen (fun r w' => .ok (.bool r) w') := by
    simp only [binOp, Op.equal, Op.maxDepth, Sem.run_bind, Sem.run_pure]
  rw [h0, show (10000 : Nat) = 9999 + 1 from rfl, run_equalIn_agg w 9999 24 _ _ hS hp]
  simp only [Program.fieldsOf, Tryd.underlying24]
  go_simp
  by_cases h1 : a = c <;> by_cases h2 : b = d <;> simp [h1, h2]
/-- A load of many cells that a guard asks for. -/
theorem wpList_load_want9 {P : Program} {ops : Array Oper} {rest : List Oper} {op : Oper} {a : Act} {w : World} {Q : Exit → Act → World → Prop} (hw : Region.wanted op (yielded ops a.tmps) = true) (ty : TypeId) (x : Operand) (ho : op.op = .load ty x)
    (b o : Nat) (hx : a.eval x = .pointer (some ⟨b, o, none⟩)) (cs : List Value) (d : TypeDesc) (hc : w.rangeAt b o cs)
    (hu : P.underlying ty = some d) (hd : d.isRow = true) (hi : (P.info? ty).map (·.size) = some cs.length)
    (h : wpList P ops Q rest (a.put op.dst (.agg cs.toArray)) w) : wpList P ops Q (op :: rest) a w :=
  wpList_step fun K hK => by rw [if_pos hw]; exact wp_load_mid ty x ho b o hx cs d hc hu hd hi (hK _ _ h)

theorem refsame9 (q : List Cp) (hq : q.length ≤ 1048576) (va vb : Value) (w : World) (ha : RC w va q) (hb : RC w vb q) :
    Calls Tryd.prog 36 #[va, vb] w fun e w' => e = .returned (.bool true) ∧ Below w.heap.size w w' := by
  have h := refSame_any va vb q q w ha hb (by omega) (by omega)
  rw [(sameL_iff q q).2 rfl] at h
  exact h

set_option maxRecDepth 100000 in
set_option maxHeartbeats 4000000 in
theorem mSame_eq (d : Dl) (hd : d.h.length = 32) (va vb : Value) (o : List Cp) (ho : o.length ≤ 1048576) (w : World) (ha : RC w va o) (hb : RC w vb o) :
    Calls Tryd.prog 17 #[.agg (d.cells va).toArray, .agg (d.cells vb).toArray] w fun e w' => e = .returned (.bool true) ∧ Below w.heap.size w w' := by
  obtain ⟨aa, ca, rfl⟩ := ha.form
  obtain ⟨ab, cb, rfl⟩ := hb.form
  obtain ⟨xs, hxs⟩ : ∃ xs, d.cells (.slice aa o.length ca) = xs := ⟨_, rfl⟩
  obtain ⟨ys, hys⟩ : ∃ ys, d.cells (.slice ab o.length cb) = ys := ⟨_, rfl⟩
  rw [hxs, hys]
  have HX := hid hxs
  have HY := hid hys
  have HA := hid ha
  have HB := hid hb
  have HD := hid hd
  obtain ⟨ds, hds⟩ : ∃ ds, B d.h = ds := ⟨_, rfl⟩
  have HDS := hid hds
  have hi := hid (show (Tryd.prog.info? 26).map (·.size) = some ds.length by rw [← hds, B_length, hd]; kernel_rfl)
  obtain ⟨L, hL⟩ : ∃ L, w.heap.size = L := ⟨_, rfl⟩
  have hq1 : ∀ wx, (binOp .eql 24 (.agg #[.int .i64 d.aD, .int .i64 d.aU]) (.agg #[.int .i64 d.aD, .int .i64 d.aU])).run Tryd.prog wx = .ok (.bool true) wx := fun wx => by rw [eql_addr9]; simp
  have hq7 : ∀ wx, (binOp .eql 24 (.agg #[.int .i64 d.wD, .int .i64 d.wU]) (.agg #[.int .i64 d.wD, .int .i64 d.wU])).run Tryd.prog wx = .ok (.bool true) wx := fun wx => by rw [eql_addr9]; simp
  have hq4 : ∀ wx, (Op.equalIn 10000 26 (.agg ds.toArray) (.agg ds.toArray)).run Tryd.prog wx = .ok true wx := fun wx => by rw [← hds, equal_hash9 wx d.h d.h hd hd]; simp
  clear hxs hys ha hb hd hds
  go_enter Tryd.func17, Tryd.ntmps17
  go_upto_region 1 with (first
    | (show wpList _ _ _ (⟨some 2, Op.box _ _, _, _, _, _⟩ :: _) _ _; go_must (refine wpList_box_blk rfl 30 _ rfl xs rfl L hL ?_); intro w1 hB1 hb1 hs1; rw [← HX.out] at hB1; have HW1 := hid (DW.mk HD.out hB1); clear hB1; replace hb1 := hid hb1)
    | (show wpList _ _ _ (⟨some 3, Op.box _ _, _, _, _, _⟩ :: _) _ _; go_must (refine wpList_box_blk rfl 30 _ rfl ys rfl (L + 1) hs1 ?_); intro w2 hB2 hb2 hs2; rw [← HY.out] at hB2; have HV := hid (DW.mk HD.out hB2); have HW := hid (HW1.out.kept (hb2.block L (by omega))); have Hb := hid (show Below L w w2 from hb1.out.trans (hb2.mono (by omega)))))
  -- REGION1
  obtain ⟨c0, c1, c2, c3, c36, c37, c38, c39⟩ := HW.out.cells
  obtain ⟨d0, d1, d2, d3, d36, d37, d38, d39⟩ := HV.out.cells
  have HRA := hid (show w2.rangeAt L 4 ds by rw [← HDS.out]; exact HW.out.hash)
  have HRB := hid (show w2.rangeAt (L + 1) 4 ds by rw [← HDS.out]; exact HV.out.hash)
  go_wp2_with (first
    | (show wpList _ _ _ (⟨some 26, Op.load _ _, _, _, _, _⟩ :: _) _ _; go_must (refine wpList_load_want9 rfl 26 _ rfl L 4 rfl ds _ HRA.out Tryd.underlying26 rfl hi.out ?_))
    | (show wpList _ _ _ (⟨some 28, Op.load _ _, _, _, _, _⟩ :: _) _ _; go_must (refine wpList_load_want9 rfl 26 _ rfl (L + 1) 4 rfl ds _ HRB.out Tryd.underlying26 rfl hi.out ?_)))
  -- CALL
  refine (refsame9 o ho _ _ _ (HA.out.later (by rw [hL]; exact Hb.out)) (HB.out.later (by rw [hL]; exact Hb.out))).mono ?_
  rintro _ w3 ⟨rfl, hb3⟩
  have hzl : L + 1 < w2.heap.size := HV.out.blk.lt
  have HW3 := hid (HW.out.later hb3)
  have HV3 := hid (HV.out.later hb3)
  have Hb3 := hid (show Below L w w3 from Hb.out.trans (hb3.mono (by omega)))
  clear c0 c1 c2 c3 c36 c37 c38 c39 d0 d1 d2 d3 d36 d37 d38 d39
  obtain ⟨c0, c1, c2, c3, c36, c37, c38, c39⟩ := HW3.out.cells
  obtain ⟨d0, d1, d2, d3, d36, d37, d38, d39⟩ := HV3.out.cells
  clear c0 c1 c2 c3 c36 c37 d0 d1 d2 d3 d36 d37 hb3
  go_wp2_with fail
  go_ret
  exact ⟨rfl, by first | exact Hb3.out | (rw [hL]; exact Hb3.out)⟩
end Go.Proofs.YtinifnpajkldbaaDoor
