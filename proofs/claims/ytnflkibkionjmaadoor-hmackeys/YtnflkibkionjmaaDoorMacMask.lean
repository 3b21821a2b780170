/- The contract of masked: a mask laid over each byte of a block. -/
import Derived.Test.YtnflkibkionjmaaDoorMacFit
namespace Go.Proofs.YtnflkibkionjmaaDoor
open Go.RowKit
set_option linter.unusedSimpArgs false
set_option linter.unusedVariables false

theorem bxor (x y : UInt8) : bits .xor .u8 (x.toNat : Int) (y.toNat : Int) = ((x ^^^ y).toNat : Int) := by
  rw [u8_xor_nat _ _ x.toNat_lt y.toNat_lt, UInt8.toNat_xor]

theorem wpList_build_none {P : Program} {ops : Array Oper} {rest : List Oper} {o : Oper} {a : Act} {w : World} {Q : Exit → Act → World → Prop} (hg : o.guard = none) (t : TypeId) (ho : o.op = .build t #[])
    (cells : Array Value) (hf : P.built t [] = some cells)
    (h : wpList P ops Q rest (a.put o.dst (.agg cells)) w) : wpList P ops Q (o :: rest) a w :=
  wpList_buildTo hg t _ ho _ rfl cells (by simpa using hf) h

theorem builtBlk : Tryd.prog.built 36 [] = some (B (List.replicate 64 0)).toArray := by kernel_rfl

theorem eqBlk (l l' : List UInt8) (hl : l.length = 64) (hl' : l'.length = 64) (w : World) : (Op.equalIn 10000 36 (.agg (B l).toArray) (.agg (B l').toArray)).run Tryd.prog w = .ok (l == l') w :=
  run_equalIn_bytes (P := Tryd.prog) w 9998 36 5 64 Tryd.underlying36 Tryd.underlying5 Tryd.sizeByte l l' hl hl'

/-- As far as j the mask is laid. -/
def laidM (m : UInt8) (j : Nat) : List UInt8 := List.replicate j m ++ List.replicate (64 - j) 0
theorem laidM_len (m : UInt8) (j : Nat) (h : j ≤ 64) : (laidM m j).length = 64 := by simp [laidM]; omega
theorem laidM_set (m : UInt8) (j : Nat) (h : j < 64) : (laidM m j).set j m = laidM m (j + 1) := by
  unfold laidM
  rw [List.set_append_right _ _ (by simp), List.length_replicate, Nat.sub_self, show 64 - j = (64 - (j + 1)) + 1 by omega, List.replicate_succ, List.set_cons_zero, List.replicate_succ', List.append_assoc]
  rfl
/-- As far as j the bytes are masked. -/
def laidK (m : UInt8) (l : List UInt8) (j : Nat) : List UInt8 := maskS m (l.take j) ++ List.replicate (64 - j) m
theorem laidK_len (m : UInt8) (l : List UInt8) (hl : l.length = 64) (j : Nat) (h : j ≤ 64) : (laidK m l j).length = 64 := by simp [laidK, maskS_len, hl]; omega
theorem laidK_get (m : UInt8) (l : List UInt8) (hl : l.length = 64) (j : Nat) (h : j < 64) : (laidK m l j).getD j 0 = m := by
  unfold laidK
  have hk : (maskS m (l.take j)).length = j := by rw [maskS_len, List.length_take]; omega
  rw [List.getD_eq_getElem?_getD, List.getElem?_append_right (by omega), hk, Nat.sub_self, show 64 - j = (64 - (j + 1)) + 1 by omega, List.replicate_succ]
  rfl
theorem laidK_set (m : UInt8) (l : List UInt8) (hl : l.length = 64) (j : Nat) (h : j < 64) : (laidK m l j).set j (m ^^^ l.getD j 0) = laidK m l (j + 1) := by
  unfold laidK
  have hk : (maskS m (l.take j)).length = j := by rw [maskS_len, List.length_take]; omega
  have e : l.getD j 0 = l[j]'(by omega) := by rw [List.getD_eq_getElem?_getD, List.getElem?_eq_getElem (by omega)]; rfl
  rw [List.set_append_right _ _ (by omega), hk, Nat.sub_self, show 64 - j = (64 - (j + 1)) + 1 by omega, List.replicate_succ, List.set_cons_zero, List.take_succ_eq_append_getElem (by omega), e]
  simp only [maskS, List.map_append, List.map_cons, List.map_nil, List.append_assoc]
  rfl
theorem B_set (l : List UInt8) (j : Nat) (b : UInt8) : (B l).set j (.int .u8 b.toNat) = B (l.set j b) := by simp [B, List.map_set]
theorem mask_zero (m : UInt8) (n : Nat) : maskS m (List.replicate n 0) = List.replicate n m := by simp [maskS]

set_option maxRecDepth 100000 in
set_option maxHeartbeats 4000000 in
theorem masked_any (l : List UInt8) (hl : l.length = 64) (m : UInt8) (mi : Int) (hm : mi = (m.toNat : Int)) (w : World) :
    Calls Tryd.prog 14 #[.agg (B l).toArray, .int .u8 mi] w fun e w' => e = .returned (.agg (B (maskS m l)).toArray) ∧ Below w.heap.size w w' := by
  subst hm
  obtain ⟨ms, hms⟩ : ∃ ms, B (maskS m l) = ms := ⟨_, rfl⟩
  rw [hms]
  have hml : ms.length = 64 := by rw [← hms, B_length, maskS_len, hl]
  have ho := hid (show ∀ v ∈ ms, v.oneCell' = true by rw [← hms]; exact B_one _)
  have hi := hid (show (Tryd.prog.info? 36).map (·.size) = some ms.length by rw [hml]; kernel_rfl)
  obtain ⟨bs, hbs⟩ : ∃ bs, B l = bs := ⟨_, rfl⟩
  rw [hbs]
  have hbl : bs.length = 64 := by rw [← hbs, B_length, hl]
  have hib := hid (show (Tryd.prog.info? 36).map (·.size) = some bs.length by rw [hbl]; kernel_rfl)
  obtain ⟨zs, hzs⟩ : ∃ zs, B (List.replicate 64 0) = zs := ⟨_, rfl⟩
  have HZ := hid (show Tryd.prog.built 36 [] = some zs.toArray by rw [← hzs]; exact builtBlk)
  have hE := eqBlk l (List.replicate 64 0) hl (by simp)
  rw [hbs, hzs] at hE
  have HE := hid hE
  obtain ⟨L, hL⟩ : ∃ L, w.heap.size = L := ⟨_, rfl⟩
  have HMS := hid hms
  have HML := hid hml
  have HBS := hid hbs
  have HBL := hid hbl
  have HLl := hid hl
  have HZS := hid hzs
  have hmb : (m.toNat : Int) < 256 := by have := m.toNat_lt; omega
  clear hms hml hbs hbl hl hzs hE
  go_enter Tryd.func14, Tryd.ntmps14
  go_wp2_with (first
    | (show wpList _ _ _ (⟨some 2, Op.box _ _, _, _, _, _⟩ :: _) _ _; go_must (refine wpList_box_blk rfl 36 _ rfl bs rfl L hL ?_); intro w1 hB1 hb1 hs1; replace hB1 := hid hB1; replace hb1 := hid hb1)
    | (show wpList _ _ _ (⟨some 4, Op.alloc _, _, _, _, _⟩ :: _) _ _; go_must (refine wpList_alloc_blk rfl 36 rfl _ zeroBlk (L + 1) hs1 ?_); intro w2 hB2 hb2 hs2; replace hB2 := hid hB2; replace hb2 := hid hb2)
    | (show wpList _ _ _ (⟨some 5, Op.alloc _, _, _, _, _⟩ :: _) _ _; go_must (refine wpList_alloc_blk rfl 36 rfl _ zeroBlk (L + 1 + 1) hs2 ?_); intro w3 hB3 hb3 hs3; replace hB3 := hid hB3; replace hb3 := hid hb3))
  have HK3 := hid (show Blk w3 36 L bs from (hB1.out.kept (hb2.out.block L (by omega))).kept (hb3.out.block L (by omega)))
  have HR3 := hid (show Blk w3 36 (L + 1) (B (List.replicate 64 0)) from hB2.out.kept (hb3.out.block (L + 1) (by omega)))
  have Hb3 := hid (show Below L w w3 from (hb1.out.trans (hb2.out.mono (by omega))).trans (hb3.out.mono (by omega)))
  have HO3 := hid (show Blk w3 36 (L + 1 + 1) (B (laidM m 0)) from hB3.out)
  clear hB1 hb1 hs1 hB2 hb2 hs2 hB3 hb3 hs3
  go_loopw [6, 9] (fun x i wr => ∃ j : Nat, j ≤ 64 ∧ i = .int .i64 j ∧ Blk wr 36 (L + 1 + 1) (B (laidM m j)) ∧ Blk wr 36 L bs ∧ Blk wr 36 (L + 1) (B (List.replicate 64 0)) ∧ Below L w wr) (fun _ i _ => 64 - (intOf i).toNat)
  case atStart => exact ⟨0, Nat.zero_le _, rfl, HO3.out, HK3.out, HR3.out, Hb3.out⟩
  case round =>
    obtain ⟨j, hj, rfl, hO, hK, hR, hb⟩ := hrel
    have HO := hid hO
    have HK := hid hK
    have HR := hid hR
    have Hb := hid hb
    by_cases hlt : j < 64
    · have hlt' : (j : Int) < 64 := by omega
      have hc := hO.cell (B_getD (laidM m j) j (by rw [laidM_len m j hj]; exact hlt))
      have hf := hO.frozen j
      clear hO hK hR hb
      go_wp2_with fail
      go_roundw
      case rel => exact ⟨j + 1, by omega, by go_num, by rw [← laidM_set m j hlt, ← B_set]; exact HO.out.setCell j _, HK.out.kept (heap_setCell_other _ _ _ _ (show L ≠ L + 1 + 1 by omega)), HR.out.kept (heap_setCell_other _ _ _ _ (show L + 1 ≠ L + 1 + 1 by omega)), Hb.out.setCell (show L ≤ L + 1 + 1 by omega) _⟩
      case measure => simp [intOf]; omega
    · have hj64 : j = 64 := by omega
      subst hj64
      have hr := hid (show wr.rangeAt L 0 bs from hK.range fun j v hv => by rw [Nat.zero_add]; exact hv)
      have hE := HE.out
      have hM : laidM m 64 = laidK m l 0 := by simp [laidM, laidK, maskS]
      rw [hM] at HO hO
      clear hO hK hR hb hM
      by_cases hz : l = List.replicate 64 0
      · have hzE : (l == List.replicate 64 0) = true := by rw [hz]; simp
        rw [hzE] at hE
        have hBO : Blk wr 36 (L + 1 + 1) ms := by
          rw [← HMS.out, hz, mask_zero]
          have h := HO.out
          rw [laidK] at h
          exact h
        have hro := hid (show wr.rangeAt (L + 1 + 1) 0 ms from hBO.range fun j v hv => by rw [Nat.zero_add]; exact hv)
        have hto := hid (show wr.there (L + 1) 0 ms.length from HR.out.there (by rw [B_length, List.length_replicate, HML.out]; omega))
        clear hBO hz hzE
        go_wp2_with (first
          | (show wpList _ _ _ (⟨some 16, Op.load _ _, _, _, _, _⟩ :: _) _ _; go_must (refine wpList_load_mid rfl 36 _ rfl L 0 rfl bs _ hr.out Tryd.underlying36 rfl hib.out ?_))
          | (show wpList _ _ _ (⟨some 17, Op.build _ _, _, _, _, _⟩ :: _) _ _; go_must (refine wpList_build_none rfl 36 rfl zs.toArray HZ.out ?_))
          | (show wpList _ _ _ (⟨some 19, Op.load _ _, _, _, _, _⟩ :: _) _ _; go_must (refine wpList_load_mid rfl 36 _ rfl (L + 1 + 1) 0 rfl ms _ hro.out Tryd.underlying36 rfl hi.out ?_))
          | (show wpList _ _ _ (⟨none, Op.store _ _ _, _, _, _, _⟩ :: _) _ _; go_must (refine wpList_store_list rfl 36 _ _ rfl (L + 1) 0 ms rfl rfl hto.out hi.out ho.out ?_); intro w7 hw7; replace hw7 := hid hw7))
        refine ret_cell 4 36 rfl (L + 1) rfl ms _ ?_ Tryd.underlying36 rfl hi.out rfl ⟨rfl, ?_⟩
        · rw [hw7.out]
          exact World.rangeAt_setCells_same wr (L + 1) 0 ms hto.out
        · rw [hw7.out, hL]
          exact below_setCells (by omega) _ _ Hb.out
      · have hzE : (l == List.replicate 64 0) = false := by simpa using hz
        rw [hzE] at hE
        clear hz hzE
        go_wp2_with (first
          | (show wpList _ _ _ (⟨some 16, Op.load _ _, _, _, _, _⟩ :: _) _ _; go_must (refine wpList_load_mid rfl 36 _ rfl L 0 rfl bs _ hr.out Tryd.underlying36 rfl hib.out ?_))
          | (show wpList _ _ _ (⟨some 17, Op.build _ _, _, _, _, _⟩ :: _) _ _; go_must (refine wpList_build_none rfl 36 rfl zs.toArray HZ.out ?_))
          | (show wpList _ _ _ (⟨some 20, Op.load _ _, _, _, _, _⟩ :: _) _ _; go_must (refine wpList_load_mid rfl 36 _ rfl L 0 rfl bs _ hr.out Tryd.underlying36 rfl hib.out ?_)))
        clear hE hr
        go_loopw [7, 8, 21] (fun x y i wr => ∃ j : Nat, j ≤ 64 ∧ i = .int .i64 j ∧ Blk wr 36 (L + 1 + 1) (B (laidK m l j)) ∧ Blk wr 36 (L + 1) (B (List.replicate 64 0)) ∧ Below L w wr) (fun _ _ i _ => 64 - (intOf i).toNat)
        case atStart => exact ⟨0, Nat.zero_le _, rfl, HO.out, HR.out, Hb.out⟩
        case round =>
          obtain ⟨j, hj, rfl, hO, hR, hb⟩ := hrel
          have HO := hid hO
          have HR := hid hR
          have Hb := hid hb
          by_cases hlt : j < 64
          · have hlt' : (j : Int) < 64 := by omega
            obtain ⟨b, hb0⟩ : ∃ b, l.getD j 0 = b := ⟨_, rfl⟩
            have hix := hid (show bs.toArray[j]? = some (.int .u8 b.toNat) by rw [List.getElem?_toArray, ← HBS.out, ← hb0]; exact B_getD l j (by rw [HLl.out]; exact hlt))
            have hc := hO.cell (B_getD (laidK m l j) j (by rw [laidK_len m l HLl.out j hj]; exact hlt))
            rw [laidK_get m l HLl.out j hlt] at hc
            have hf := hO.frozen j
            have HST := hid (show (laidK m l j).set j (m ^^^ b) = laidK m l (j + 1) by rw [← hb0]; exact laidK_set m l HLl.out j hlt)
            have hx := bxor m b
            clear hO hR hb hb0
            go_wp2_with (show wpList _ _ _ (⟨_, Op.index _ _ _, _, _, _, _⟩ :: _) _ _; go_must (refine wpList_index_agg rfl 36 _ _ rfl 5 64 .u8 Tryd.underlying36 Tryd.underlying5 Tryd.size1 _ .i64 j rfl rfl hlt (.int .u8 b.toNat) hix.out ?_))
            go_roundw
            case rel => exact ⟨j + 1, by omega, by go_num, by rw [← HST.out, ← B_set]; exact HO.out.setCell j _, HR.out.kept (heap_setCell_other _ _ _ _ (show L + 1 ≠ L + 1 + 1 by omega)), Hb.out.setCell (show L ≤ L + 1 + 1 by omega) _⟩
            case measure => simp [intOf]; omega
          · have hj64 : j = 64 := by omega
            subst hj64
            have hBO : Blk wr 36 (L + 1 + 1) ms := by
              have h := hO
              rw [laidK, List.take_of_length_le (by rw [HLl.out]; omega), Nat.sub_self, List.replicate_zero, List.append_nil, HMS.out] at h
              exact h
            have hro := hid (show wr.rangeAt (L + 1 + 1) 0 ms from hBO.range fun j v hv => by rw [Nat.zero_add]; exact hv)
            have hto := hid (show wr.there (L + 1) 0 ms.length from HR.out.there (by rw [B_length, List.length_replicate, HML.out]; omega))
            clear hO hR hb hBO
            go_wp2_with (first
              | (show wpList _ _ _ (⟨some 32, Op.load _ _, _, _, _, _⟩ :: _) _ _; go_must (refine wpList_load_mid rfl 36 _ rfl (L + 1 + 1) 0 rfl ms _ hro.out Tryd.underlying36 rfl hi.out ?_))
              | (show wpList _ _ _ (⟨none, Op.store _ _ _, _, _, _, _⟩ :: _) _ _; go_must (refine wpList_store_list rfl 36 _ _ rfl (L + 1) 0 ms rfl rfl hto.out hi.out ho.out ?_); intro w7 hw7; replace hw7 := hid hw7))
            refine ret_cell 4 36 rfl (L + 1) rfl ms _ ?_ Tryd.underlying36 rfl hi.out rfl ⟨rfl, ?_⟩
            · rw [hw7.out]
              exact World.rangeAt_setCells_same wr (L + 1) 0 ms hto.out
            · rw [hw7.out, hL]
              exact below_setCells (by omega) _ _ Hb.out
end Go.Proofs.YtnflkibkionjmaaDoor
