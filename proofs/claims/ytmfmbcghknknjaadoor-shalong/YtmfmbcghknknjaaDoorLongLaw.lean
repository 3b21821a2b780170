/- The law ShaLong: bytes of each length, turned at one place, too, are summed as the second say sums them. -/
import Derived.Test.YtmfmbcghknknjaaDoorWithin2
namespace Go.Proofs.YtmfmbcghknknjaaDoor
open Go.RowKit
set_option linter.unusedSimpArgs false
set_option linter.unusedVariables false

theorem parts_one_new (w : World) (g n : Nat) (l : List UInt8) (hO : Owns w 5 g n n (B l)) : Parts (w.alloc (.cells #[.slice (some ⟨g, 0, none⟩) n n] 26)) (.slice (some ⟨w.heap.size, 0, none⟩) 1 1) [l] :=
  Parts.one (t := 26) (fr := (0, 0)) (by rw [heap_of_alloc, if_pos rfl]) (hO.alloc _).reads (by have := hO.1; rwa [B_length] at this) hO.2.2.1

set_option maxRecDepth 100000 in
set_option maxHeartbeats 4000000 in
theorem long_any (n : Int) (b : Int) (at0 : Int) (turn : Int) (hb0 : 0 ≤ b) (hb1 : b < 256) (ht0 : 0 ≤ turn) (ht1 : turn < 256) (w : World) (ht : Tabs w) :
    Calls Tryd.prog 4 #[.int .i64 n, .int .u8 b, .int .i64 at0, .int .u8 turn] w fun e w' => e = .returned (.bool true) ∧ Below w.heap.size w w' := by
  obtain ⟨i0, hi, hz0, hz1, hz2⟩ := info_parts Tryd.infoByte
  obtain ⟨q, hq⟩ : ∃ q : Nat, n % 300 = (q : Int) := Int.eq_ofNat_of_zero_le (by omega)
  have hq3 : q < 300 := by omega
  have HQ := hid hq
  have HT := hid ht
  have h2 := ht.two
  clear hq ht
  go_enter Tryd.func4, Tryd.ntmps4
  go_wp2_with fail
  refine (known_any _ HT.out).mono ?_
  rintro _ w1 ⟨rfl, hb1'⟩
  have Hb1 := hid hb1'
  clear hb1'
  go_wp2_with fail
  refine (within_any n 300 (by omega) (by omega) _).mono ?_
  rintro _ w1' ⟨rfl, rfl⟩
  rw [HQ.out]
  have hs1 := Hb1.out.size
  go_wp2_with (at_make; go_must (refine wpList_make_bytes _ rfl _ _ 26 rfl 5 i0 Tryd.underlying26 hi hz0 hz1 hz2 .i64 .i64 _ _ q rfl rfl rfl rfl (by omega) ?_); intro w2 hO2 hg2 hs2; replace hO2 := hid hO2; replace hg2 := hid hg2)
  have Hb2 := hid (show Below w.heap.size w w2 from Hb1.out.trans (grown_below hg2.out _ (by intro k hk; cases hk; omega) (by omega)))
  obtain ⟨G, hG⟩ : ∃ G, w1'.heap.size = G := ⟨_, rfl⟩
  rw [hG] at hO2 ⊢
  clear hg2
  go_loopw [10] (fun i wr => ∃ (j : Nat) (l : List UInt8), j ≤ q ∧ i = .int .i64 j ∧ Owns wr 5 G q q (B l) ∧ Below w.heap.size w wr) (fun i _ => q - (intOf i).toNat)
  case atStart => exact ⟨0, _, Nat.zero_le _, rfl, hO2.out, Hb2.out⟩
  case round =>
    obtain ⟨j, l, hj, rfl, hO, hb⟩ := hrel
    have HO := hid hO
    have Hb := hid hb
    clear hO hb
    by_cases hlt : j < q
    · have hlt' : (j : Int) < (q : Int) := by omega
      have hll : l.length = q := by have := HO.out.1; rwa [B_length] at this
      have c := HO.out.cell (B_getD l j (by omega))
      have fr := HO.out.frozen j
      go_wp2_with fail
      go_roundw
      case rel => exact ⟨j + 1, _, by omega, by go_num, HO.out.setByte j _ (by omega) (by omega), Hb.out.setCell (show w.heap.size ≤ (⟨G, j, none⟩ : Addr).block from (by show w.heap.size ≤ G; omega)) _⟩
      case measure => simp [intOf]; omega
    · have hjq : j = q := by omega
      subst hjq
      have Hll := hid (show l.length = j by have := HO.out.1; rwa [B_length] at this)
      go_wp2_with fail
      refine (Sum_any _ (HT.out.below (Hb.out.alloc (by have := Hb.out.size; omega) _) (by omega)) _ [l] (parts_one_new _ G j l HO.out) (by simp) (by simp only [List.flatten_cons, List.flatten_nil, List.append_nil]; have := Hll.out; omega)).mono ?_
      rintro _ wA1 ⟨rfl, hbA1⟩
      rw [show [l].flatten = l by simp]
      have HOA1 := hid (show Owns wA1 5 G j j (B l) from (HO.out.alloc _).later hbA1)
      have HbA1 := hid (show Below w.heap.size w wA1 from (Hb.out.alloc (by have := Hb.out.size; omega) _).trans (hbA1.mono (by have := Hb.out.size; simp; omega)))
      clear hbA1
      go_wp2_with fail
      refine (refSum_any l _ j j Hll.out _ HOA1.out.reads (by omega)).mono ?_
      rintro _ wB1 ⟨rfl, hbB1⟩
      have HOB1 := hid (HOA1.out.later hbB1)
      have HbB1 := hid (show Below w.heap.size w wB1 from HbA1.out.trans (hbB1.mono HbA1.out.size))
      have hE := eqH (shaS l) (shaS_len l)
      clear hbB1
      generalize (B (shaS l)).toArray = hash1 at *
      by_cases h0 : 0 < j
      · have h0' : (0 : Int) < (j : Int) := by omega
        go_wp2_with fail
        refine (within_any at0 (j : Int) (by omega) (by omega) _).mono ?_
        rintro _ wC ⟨rfl, rfl⟩
        obtain ⟨p, hp⟩ : ∃ p : Nat, at0 % (j : Int) = (p : Int) := Int.eq_ofNat_of_zero_le (Int.emod_nonneg _ (by omega))
        have hpj : p < j := by have := Int.emod_lt_of_pos at0 h0'; omega
        rw [hp]
        have hpj' : (p : Int) < (j : Int) := by omega
        obtain ⟨x, hx⟩ : ∃ x, l.getD p 0 = x := ⟨_, rfl⟩
        have c := HOB1.out.cell (B_getD l p (by have := Hll.out; omega))
        rw [hx] at c
        have hx255 : (x.toNat : Int) ≤ 255 := by have := x.toNat_lt; omega
        have fr := HOB1.out.frozen p
        clear hE hp hx
        go_wp2_with fail
        have hOD := HOB1.out.setByte p (((x.toNat : Int) + turn) % 256) (by omega) (by omega)
        have hbD := HbB1.out.setCell (show w.heap.size ≤ (⟨G, p, none⟩ : Addr).block from (by show w.heap.size ≤ G; omega)) (.int .u8 (((x.toNat : Int) + turn) % 256))
        have hszD : (wC.setCell ⟨G, p, none⟩ (.int .u8 (((x.toNat : Int) + turn) % 256))).heap.size = wC.heap.size := by simp
        rw [← hszD]
        generalize wC.setCell ⟨G, p, none⟩ (.int .u8 (((x.toNat : Int) + turn) % 256)) = wD at *
        have Hll2 := hid (show (l.set p (UInt8.ofNat (((x.toNat : Int) + turn) % 256).toNat)).length = j by rw [List.length_set]; exact Hll.out)
        generalize l.set p (UInt8.ofNat (((x.toNat : Int) + turn) % 256).toNat) = l2 at *
        have HOD := hid hOD
        have HbD := hid hbD
        clear hOD hbD hszD c fr
        refine (Sum_any _ (HT.out.below (HbD.out.alloc (by have := HbD.out.size; omega) _) (by omega)) _ [l2] (parts_one_new _ G j l2 HOD.out) (by simp) (by simp only [List.flatten_cons, List.flatten_nil, List.append_nil]; have := Hll2.out; omega)).mono ?_
        rintro _ wA2 ⟨rfl, hbA2⟩
        rw [show [l2].flatten = l2 by simp]
        have HOA2 := hid (show Owns wA2 5 G j j (B l2) from (HOD.out.alloc _).later hbA2)
        have HbA2 := hid (show Below w.heap.size w wA2 from (HbD.out.alloc (by have := HbD.out.size; omega) _).trans (hbA2.mono (by have := HbD.out.size; simp; omega)))
        clear hbA2
        go_wp2_with fail
        refine (refSum_any l2 _ j j Hll2.out _ HOA2.out.reads (by omega)).mono ?_
        rintro _ wB2 ⟨rfl, hbB2⟩
        have HOB2 := hid (HOA2.out.later hbB2)
        have HbB2 := hid (show Below w.heap.size w wB2 from HbA2.out.trans (hbB2.mono HbA2.out.size))
        have hE := eqH (shaS l2) (shaS_len l2)
        clear hbB2
        generalize (B (shaS l2)).toArray = hash2 at *
        go_wp2_with fail
        go_ret
        exact ⟨rfl, HbB2.out⟩
      · have hj0 : j = 0 := by omega
        subst hj0
        go_wp2_with fail
        clear hE
        refine (Sum_any _ (HT.out.below (HbB1.out.alloc (by have := HbB1.out.size; omega) _) (by omega)) _ [l] (parts_one_new _ G 0 l HOB1.out) (by simp) (by simp only [List.flatten_cons, List.flatten_nil, List.append_nil]; have := Hll.out; omega)).mono ?_
        rintro _ wA3 ⟨rfl, hbA3⟩
        rw [show [l].flatten = l by simp]
        have HOA3 := hid (show Owns wA3 5 G 0 0 (B l) from (HOB1.out.alloc _).later hbA3)
        have HbA3 := hid (show Below w.heap.size w wA3 from (HbB1.out.alloc (by have := HbB1.out.size; omega) _).trans (hbA3.mono (by have := HbB1.out.size; simp; omega)))
        clear hbA3
        go_wp2_with fail
        refine (refSum_any l _ 0 0 Hll.out _ HOA3.out.reads (by omega)).mono ?_
        rintro _ wB3 ⟨rfl, hbB3⟩
        have HOB3 := hid (HOA3.out.later hbB3)
        have HbB3 := hid (show Below w.heap.size w wB3 from HbA3.out.trans (hbB3.mono HbA3.out.size))
        have hE := eqH (shaS l) (shaS_len l)
        clear hbB3
        generalize (B (shaS l)).toArray = hash3 at *
        go_wp2_with fail
        go_ret
        exact ⟨rfl, HbB3.out⟩
theorem long_row (a0 : Int) (w0 : (Lit.int .i64 a0).wf = true) (a1 : Int) (w1 : (Lit.int .u8 a1).wf = true) (a2 : Int) (w2 : (Lit.int .i64 a2).wf = true) (a3 : Int) (w3 : (Lit.int .u8 a3).wf = true) (w : World) (ht : Tabs w) :
    Calls Tryd.prog 4 #[.int .i64 a0, .int .u8 a1, .int .i64 a2, .int .u8 a3] w fun e w' => e = .returned (.bool true) ∧ Below w.heap.size w w' := by
  have h1 := bounds_u8 w1
  have h3 := bounds_u8 w3
  exact long_any a0 a1 a2 a3 (by omega) (by omega) (by omega) (by omega) w ht
end Go.Proofs.YtmfmbcghknknjaaDoor
