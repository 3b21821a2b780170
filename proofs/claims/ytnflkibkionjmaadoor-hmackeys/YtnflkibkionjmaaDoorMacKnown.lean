/- The contracts of the laws' own known and all. -/
import Derived.Test.YtnflkibkionjmaaDoorMacRef
import Derived.Test.YtnflkibkionjmaaDoorIsParts
namespace Go.Proofs.YtnflkibkionjmaaDoor
open Go.RowKit
set_option linter.unusedSimpArgs false
set_option linter.unusedVariables false

theorem mac_none : (macS [] []).take 4 = [182, 19, 103, 154] := by decide +kernel

set_option maxRecDepth 100000 in
set_option maxHeartbeats 4000000 in
theorem known3_any (w : World) (ht : Tabs w) : Calls Tryd.prog 8 #[] w fun e w' => e = .returned (.bool true) ∧ Below w.heap.size w w' := by
  have HT := hid ht
  clear ht
  obtain ⟨ml, hml⟩ : ∃ ml, macS [] [] = ml := ⟨_, rfl⟩
  have hmll : ml.length = 32 := by rw [← hml, macS_len]
  have hm4 : ml.take 4 = [182, 19, 103, 154] := by rw [← hml]; exact mac_none
  obtain ⟨ms, hms⟩ : ∃ ms, B ml = ms := ⟨_, rfl⟩
  have hmsl : ms.length = 32 := by rw [← hms, B_length, hmll]
  have hms4 : ms.take 4 = B [182, 19, 103, 154] := by rw [← hms, ← hm4]; simp [B, List.map_take]
  have Ho := hid (show ∀ v ∈ ms, v.oneCell' = true by rw [← hms]; exact B_one _)
  have Hi := hid (show (Tryd.prog.info? 26).map (·.size) = some ms.length by rw [hmsl]; kernel_rfl)
  have HML := hid hml
  have HMS := hid hms
  have HMl := hid hmsl
  have HM4 := hid hms4
  clear hml hmll hm4 hms hmsl hms4
  go_enter Tryd.func8, Tryd.ntmps8
  go_wp2_with fail
  refine (Mac_any [] none 0 0 rfl none 0 0 [] rfl w HT.out (Has.nil w 5 0).reads (Nat.zero_le _) (by omega) (Parts.nil w) (by omega) (by simp)).mono ?_
  rintro _ w1 ⟨rfl, hb1⟩
  rw [show ([] : List (List UInt8)).flatten = [] from rfl, HML.out, HMS.out]
  have Hb1 := hid hb1
  obtain ⟨L, hL⟩ : ∃ L, w1.heap.size = L := ⟨_, rfl⟩
  have hwL : w.heap.size ≤ L := by rw [← hL]; exact hb1.size
  clear hb1
  go_upto_region 2 with (first
    | (show wpList _ _ _ (⟨some 1, Op.alloc _, _, _, _, _⟩ :: _) _ _; go_must (refine wpList_alloc_blk rfl 26 rfl _ zeroHash L hL ?_); intro w2 hB2 hb2 hs2; replace hB2 := hid hB2; replace hb2 := hid hb2; have ht2 := hid (hB2.out.there (o := 0) (n := ms.length) (by rw [B_length, List.length_replicate, HMl.out]; omega)))
    | (show wpList _ _ _ (⟨none, Op.store _ _ _, _, _, _, _⟩ :: _) _ _; go_must (refine wpList_store_list rfl 26 _ _ rfl L 0 ms rfl rfl ht2.out Hi.out Ho.out ?_); intro w3 hw3; replace hw3 := hid hw3))
  have hB3 : Blk w3 26 L ms := by rw [hw3.out]; exact Blk.over (by rw [B_length, List.length_replicate, HMl.out]) hB2.out
  have Hb3 := hid (show Below w.heap.size w w3 by rw [hw3.out]; exact below_setCells hwL _ _ (Hb1.out.trans (hb2.out.mono hwL)))
  have hg : ∀ (j : Nat) (u : Value), (B [182, 19, 103, 154])[j]? = some u → w3.cell? ⟨L, j, none⟩ = some u := by
    intro j u hu
    refine hB3.cell ?_
    rw [← HM4.out, List.getElem?_take] at hu
    split at hu
    · exact hu
    · cases hu
  have c0 : w3.cell? ⟨L, 0, none⟩ = some (.int .u8 182) := hg 0 _ rfl
  have c1 : w3.cell? ⟨L, 1, none⟩ = some (.int .u8 19) := hg 1 _ rfl
  have c2 : w3.cell? ⟨L, 2, none⟩ = some (.int .u8 103) := hg 2 _ rfl
  have c3 : w3.cell? ⟨L, 3, none⟩ = some (.int .u8 154) := hg 3 _ rfl
  clear hg hB3 hw3 hB2 hb2 ht2
  go_wp2_with fail
  go_ret
  exact ⟨rfl, Hb3.out⟩

set_option maxRecDepth 100000 in
set_option maxHeartbeats 4000000 in
theorem all3_any (ls : List (List UInt8)) (ao : Option Addr) (len cap : Nat) (hlen : ls.length = len) (w : World) (hp : Parts w (.slice ao len cap) ls) (hb : len ≤ 1000) (htot : ls.flatten.length ≤ 100000) :
    Calls Tryd.prog 11 #[.slice ao len cap] w fun e w' => ∃ v, e = .returned v ∧ Has w' 5 w.heap.size v ls.flatten.length (B ls.flatten) ∧ Below w.heap.size w w' := by
  obtain ⟨i0, hi, hz0, hz1, hz2⟩ := info_parts Tryd.infoByte
  have HP := hid hp
  have HLen := hid hlen
  have HTot := hid htot
  clear hp hlen htot
  go_enter Tryd.func11, Tryd.ntmps11
  go_wp2_with fail
  go_loopw [3, 4] (fun v i wr => ∃ j : Nat, j ≤ len ∧ i = .int .i64 j ∧ Has wr 5 w.heap.size v (ls.take j).flatten.length (B (ls.take j).flatten) ∧ Below w.heap.size w wr) (fun _ i _ => len - (intOf i).toNat)
  case atStart => exact ⟨0, Nat.zero_le _, rfl, Has.nil _ _ _, Below.refl _ _⟩
  case round =>
    obtain ⟨j, hj, rfl, hH, hb⟩ := hrel
    have HH := hid hH
    have Hb := hid hb
    have hsz := hb.size
    clear hH hb
    by_cases hlt : j < len
    · have hlt' : (j : Int) < (len : Int) := by omega
      have hge' : (0 : Int) ≤ (j : Int) := by omega
      obtain ⟨x, hx⟩ : ∃ x, ls[j]? = some x := ⟨_, List.getElem?_eq_getElem (by rw [HLen.out]; exact hlt)⟩
      have Htk := hid (show (ls.take (j + 1)).flatten = (ls.take j).flatten ++ x by
        rw [List.take_add_one, hx]; simp)
      have hbd : (ls.take j).flatten.length + x.length ≤ 100000 := by
        have h1 : (ls.take (j + 1)).flatten.length ≤ ls.flatten.length := by
          rw [← List.take_append_drop (j + 1) ls, List.flatten_append, List.length_append, List.take_append_drop]
          omega
        rw [Htk.out, List.length_append] at h1
        have := HTot.out
        omega
      obtain ⟨ad, p, c, rfl, hcell, hrd⟩ : ∃ ad p c, ao = some ad ∧ w.cell? (ad.add j) = some (.slice p x.length c) ∧ Reads w (.slice p x.length c) (B x) := by
        obtain ⟨ao', c', e, _, hn, hcl⟩ := HP.out
        injection e with e1 e2 e3
        subst e1
        cases ao with
        | none => have := hn rfl; subst this; simp at hx
        | some ad =>
          obtain ⟨p, c, k1, k2, _⟩ := hcl ad rfl j x hx
          exact ⟨ad, p, c, rfl, k1, k2⟩
      have c0 := cell_later Hb.out hcell
      have HR := hid (hrd.later Hb.out)
      clear hcell hrd hx
      obtain ⟨N, hN⟩ : ∃ N, x.length = N := ⟨_, rfl⟩
      rw [hN] at c0 HR hbd
      obtain ⟨M, hM⟩ : ∃ M, (ls.take j).flatten.length = M := ⟨_, rfl⟩
      rw [hM] at HH hbd
      go_wp2_with (at_builtin; go_must (refine wpList_append_any rfl _ _ 22 22 rfl 5 i0 (.int .u8 0) Tryd.underlying22 hi hz0 hz1 hz2 rfl w.heap.size _ M _ rfl HH.out hsz _ N (B x) rfl (Src.ofBytes _ Tryd.underlying22 hN HR.out) (by omega) ?_); intro v2 w2 hH2 hb2; replace hH2 := hid hH2; replace hb2 := hid hb2)
      go_roundw
      case rel => exact ⟨j + 1, by omega, by go_num, by rw [Htk.out, List.length_append, hM, hN, B_append]; exact hH2.out, Hb.out.trans hb2.out⟩
      case measure => simp [intOf]; omega
    · have hjl : j = len := by omega
      subst hjl
      have hfl : ls.take j = ls := List.take_of_length_le (by rw [HLen.out]; exact Nat.le_refl _)
      rw [hfl] at HH
      go_wp2_with fail
      go_ret
      exact ⟨_, rfl, HH.out, Hb.out⟩
end Go.Proofs.YtnflkibkionjmaaDoor
