/- The law HmacLays: the sign is the sum over the outer key and the sum over the inner one and the text, byte by byte. -/
import Derived.Test.YtnflkibkionjmaaDoorLawBits
namespace Go.Proofs.YtnflkibkionjmaaDoor
open Go.RowKit
set_option linter.unusedSimpArgs false
set_option linter.unusedVariables false

section
variable {P : Program} (w : World)
theorem wp_append_src {o : Oper} {a : Act} {K : Act → World → Prop} {Q : Exit → Act → World → Prop} (s x : Operand) (t tx : TypeId)
    (ho : o.op = .call { callee := .builtin .append, args := #[s, x], argTypes := #[t, tx] })
    (e : TypeId) (i : TypeInfo) (z : Value) (ht : P.underlying t = some (.slice e)) (hi : P.info? e = some i) (hz : i.zero = some z) (hsize : i.size = 1) (hby : i.bytes = 1) (hzs : z.cells.size = 1)
    (g cap n : Nat) (xs : List Value) (hs : a.eval s = .slice (some ⟨g, 0, none⟩) n cap) (hown : Owns w e g cap n xs)
    (y : Value) (m : Nat) (news : List Value) (hx : a.eval x = y) (hsrc : Src P 1 tx y m news w) (hb : n + m ≤ 140737488355328)
    (h : ∀ g' cap' w', Grew e w g cap n xs w' g' cap' (n + m) (xs ++ news) → K (a.put o.dst (.slice (some ⟨g', 0, none⟩) (n + m) cap')) w') : o.wp P a w K Q := by
  obtain ⟨g', cap', w', hr, hG⟩ := run_append_src (P := P) w t tx o.type e i z ht hi hz hsize hby hzs g cap n xs hown y m news hsrc hb
  unfold Oper.wp execOp
  simp only [ho, resolve, invoke, builtin, Sem.run_bind, Sem.run_pure, Result.andThen_ok, List.map_toArray, List.map_cons, List.map_nil, hs, hx, hr]
  exact h g' cap' w' hG
end

theorem fit_get (key : List UInt8) (n j : Nat) (hn : key.length = n) (h64 : n ≤ 64) (hj : j < 64) : (fitS key).getD j 0 = key.getD j 0 := by
  rw [fitS, if_neg (by omega)]
  by_cases h : j < n
  · rw [List.getD_eq_getElem?_getD, List.getD_eq_getElem?_getD, List.getElem?_append_left (by omega)]
  · rw [List.getD_eq_getElem?_getD, List.getD_eq_getElem?_getD, List.getElem?_append_right (by omega), List.getElem?_replicate, if_pos (by omega), List.getElem?_eq_none (by omega)]
    rfl

set_option maxRecDepth 100000 in
set_option maxHeartbeats 8000000 in
theorem lays_any (key : List UInt8) (ao : Option Addr) (n cap : Nat) (hn : key.length = n) (text : List UInt8) (bo : Option Addr) (m bc : Nat) (hm : text.length = m) (w : World) (ht : Tabs w)
    (hr : Reads w (.slice ao n cap) (B key)) (hcap : cap ≤ maxLen) (htx : Reads w (.slice bo m bc) (B text)) (hbc : bc ≤ maxLen) :
    Calls Tryd.prog 6 #[.slice ao n cap, .slice bo m bc] w fun e w' => e = .returned (.bool true) ∧ Below w.heap.size w w' := by
  obtain ⟨i0, hi, hz0, hz1, hz2⟩ := info_parts Tryd.infoByte
  have HR := hid hr
  have HX := hid htx
  have HT := hid ht
  have HN := hid hn
  have HM := hid hm
  have HC := hid hcap
  have HBc := hid hbc
  have h2 := ht.two
  clear hr htx ht hn hm hcap hbc
  go_enter Tryd.func6, Tryd.ntmps6
  go_wp2_with fail
  refine (known3_any _ HT.out).mono ?_
  rintro _ w1 ⟨rfl, hb1'⟩
  have Hb1 := hid hb1'
  clear hb1'
  by_cases h1 : (64 : Int) < (n : Int)
  · go_wp2_with fail
    go_ret
    exact ⟨rfl, Hb1.out⟩
  by_cases h3 : (100 : Int) < (m : Int)
  · go_wp2_with fail
    go_ret
    exact ⟨rfl, Hb1.out⟩
  have hn1 : n ≤ 64 := by omega
  have hm1 : m ≤ 100 := by omega
  go_upto_region 5 with fail
  go_cut [5, 6] (fun s5 s6 w' => ∃ gi go, s5 = .slice (some ⟨gi, 0, none⟩) 64 64 ∧ s6 = .slice (some ⟨go, 0, none⟩) 64 64 ∧ w.heap.size ≤ gi ∧ w.heap.size ≤ go ∧ gi ≠ go ∧ Blk w' 5 gi (B (List.replicate 64 0)) ∧ Blk w' 5 go (B (List.replicate 64 0)) ∧ Below w.heap.size w w')
  case first =>
    have Hb := hid (show Below w.heap.size w w1.drew from Hb1.out.drew)
    clear Hb1
    refine wp_region_held_drew (S := fun w' => True) (by kernel_rfl) (trivial) (fun hHeld => ?_)
    refine wpAnyH_ready (rs := [0, 1]) (by kernel_rfl) (by simp) ?_
    refine AllReadyH.cons rfl (fun K hK => ?_) (AllReadyH.cons rfl (fun K hK => ?_) AllReadyH.nil)
    · obtain ⟨gi, hgi⟩ : ∃ N, w1.drew.heap.size = N := ⟨_, rfl⟩
      refine Eq.mpr (if_pos (by rfl)) ?_
      refine wp_make_blk _ _ 22 rfl 5 i0 Tryd.underlying22 hi hz0 hz1 hz2 .i64 .i64 64 rfl rfl (by omega) gi hgi ?_
      intro v1 hB hb0 hz
      have hb' : Below w1.drew.heap.size w1.drew v1 := by rw [hgi]; exact hb0
      have hlgi : w.heap.size ≤ gi := by have := Hb.out.size; omega
      have Hb' := hid (below_seq Hb.out hb')
      have hgi' := hid hB
      clear Hb hB hb0 hb'
      refine hK.out _ _ trivial (fun hHeld => ?_)
      clear hK K
      try simp only [Act.put, List.setIfInBounds_toArray, List.set_cons_zero, List.set_cons_succ, List.getElem_toArray, List.getElem_cons_zero, List.getElem_cons_succ]
      refine wpAnyH_take (i := 2) (v := .slice (some ⟨gi, 0, none⟩) 64 64) rfl (by kernel_rfl) (by kernel_rfl) (by kernel_rfl) (fun _ _ _ h => h) (Or.inl ⟨by rfl, by intro w hSw; go_simp⟩) hHeld ?_
      try simp only [Act.put, List.setIfInBounds_toArray, List.set_cons_zero, List.set_cons_succ, List.getElem_toArray, List.getElem_cons_zero, List.getElem_cons_succ]
      refine wpAnyH_ready (rs := [1]) (by kernel_rfl) (by simp) ?_
      refine AllReadyH.cons rfl (fun K hK => ?_) AllReadyH.nil
      obtain ⟨go, hgo⟩ : ∃ N, v1.heap.size = N := ⟨_, rfl⟩
      refine Eq.mpr (if_pos (by rfl)) ?_
      refine wp_make_blk _ _ 22 rfl 5 i0 Tryd.underlying22 hi hz0 hz1 hz2 .i64 .i64 64 rfl rfl (by omega) go hgo ?_
      intro v2 hB hb0 hz
      have hb' : Below v1.heap.size v1 v2 := by rw [hgo]; exact hb0
      have hlgo : w.heap.size ≤ go := by have := Hb'.out.size; omega
      have Hb2 := hid (below_seq Hb'.out hb')
      have hgi2 := hid (hgi'.out.later hb')
      have hgo2 := hid hB
      have hne : gi ≠ go := by have := hgi'.out.lt; omega
      clear Hb' hgi' hB hb0 hb'
      refine hK.out _ _ trivial (fun hHeld => ?_)
      clear hK K
      try simp only [Act.put, List.setIfInBounds_toArray, List.set_cons_zero, List.set_cons_succ, List.getElem_toArray, List.getElem_cons_zero, List.getElem_cons_succ]
      refine wpAnyH_take (i := 3) (v := .slice (some ⟨go, 0, none⟩) 64 64) rfl (by kernel_rfl) (by kernel_rfl) (by kernel_rfl) (fun _ _ _ h => h) (Or.inl ⟨by rfl, by intro w hSw; go_simp⟩) hHeld ?_
      try simp only [Act.put, List.setIfInBounds_toArray, List.set_cons_zero, List.set_cons_succ, List.getElem_toArray, List.getElem_cons_zero, List.getElem_cons_succ]
      refine wpAnyH_done (by kernel_rfl) ?_ _
      go_wp2_with fail
      go_meet
      case rel => exact ⟨gi, go, rfl, rfl, hlgi, hlgo, hne, hgi2.out, hgo2.out, Hb2.out⟩
    · obtain ⟨go, hgo⟩ : ∃ N, w1.drew.heap.size = N := ⟨_, rfl⟩
      refine Eq.mpr (if_pos (by rfl)) ?_
      refine wp_make_blk _ _ 22 rfl 5 i0 Tryd.underlying22 hi hz0 hz1 hz2 .i64 .i64 64 rfl rfl (by omega) go hgo ?_
      intro v1 hB hb0 hz
      have hb' : Below w1.drew.heap.size w1.drew v1 := by rw [hgo]; exact hb0
      have hlgo : w.heap.size ≤ go := by have := Hb.out.size; omega
      have Hb' := hid (below_seq Hb.out hb')
      have hgo' := hid hB
      clear Hb hB hb0 hb'
      refine hK.out _ _ trivial (fun hHeld => ?_)
      clear hK K
      try simp only [Act.put, List.setIfInBounds_toArray, List.set_cons_zero, List.set_cons_succ, List.getElem_toArray, List.getElem_cons_zero, List.getElem_cons_succ]
      refine wpAnyH_ready (rs := [0]) (by kernel_rfl) (by simp) ?_
      refine AllReadyH.cons rfl (fun K hK => ?_) AllReadyH.nil
      obtain ⟨gi, hgi⟩ : ∃ N, v1.heap.size = N := ⟨_, rfl⟩
      refine Eq.mpr (if_pos (by rfl)) ?_
      refine wp_make_blk _ _ 22 rfl 5 i0 Tryd.underlying22 hi hz0 hz1 hz2 .i64 .i64 64 rfl rfl (by omega) gi hgi ?_
      intro v2 hB hb0 hz
      have hb' : Below v1.heap.size v1 v2 := by rw [hgi]; exact hb0
      have hlgi : w.heap.size ≤ gi := by have := Hb'.out.size; omega
      have Hb2 := hid (below_seq Hb'.out hb')
      have hgo2 := hid (hgo'.out.later hb')
      have hgi2 := hid hB
      have hne : gi ≠ go := by have := hgo'.out.lt; omega
      clear Hb' hgo' hB hb0 hb'
      refine hK.out _ _ trivial (fun hHeld => ?_)
      clear hK K
      try simp only [Act.put, List.setIfInBounds_toArray, List.set_cons_zero, List.set_cons_succ, List.getElem_toArray, List.getElem_cons_zero, List.getElem_cons_succ]
      refine wpAnyH_take (i := 2) (v := .slice (some ⟨gi, 0, none⟩) 64 64) rfl (by kernel_rfl) (by kernel_rfl) (by kernel_rfl) (fun _ _ _ h => h) (Or.inl ⟨by rfl, by intro w hSw; go_simp⟩) hHeld ?_
      try simp only [Act.put, List.setIfInBounds_toArray, List.set_cons_zero, List.set_cons_succ, List.getElem_toArray, List.getElem_cons_zero, List.getElem_cons_succ]
      refine wpAnyH_take (i := 3) (v := .slice (some ⟨go, 0, none⟩) 64 64) rfl (by kernel_rfl) (by kernel_rfl) (by kernel_rfl) (fun _ _ _ h => h) (Or.inl ⟨by rfl, by intro w hSw; go_simp⟩) hHeld ?_
      try simp only [Act.put, List.setIfInBounds_toArray, List.set_cons_zero, List.set_cons_succ, List.getElem_toArray, List.getElem_cons_zero, List.getElem_cons_succ]
      refine wpAnyH_done (by kernel_rfl) ?_ _
      go_wp2_with fail
      go_meet
      case rel => exact ⟨gi, go, rfl, rfl, hlgi, hlgo, hne, hgi2.out, hgo2.out, Hb2.out⟩
  case rest =>
  obtain ⟨gi, go, rfl, rfl, hlgi, hlgo, hne, hBi, hBo, hb2⟩ := hcut
  obtain ⟨kf, hkf⟩ : ∃ kf, fitS key = kf := ⟨_, rfl⟩
  have HKF := hid hkf
  have HKL := hid (show kf.length = 64 by rw [← hkf, fitS_len])
  have HKG := hid (show ∀ j, j < 64 → kf.getD j 0 = key.getD j 0 by intro j hj; rw [← hkf]; exact fit_get key n j HN.out hn1 hj)
  have HI0 := hid (show Blk wc 5 gi (B (laidI 54 kf 0)) from hBi)
  have HO0 := hid (show Blk wc 5 go (B (laidI 92 kf 0)) from hBo)
  have Hb2 := hid hb2
  clear hBi hBo hb2 hkf Hb1
  go_wp2_with fail
  go_loopw [7] (fun i wr => ∃ j : Nat, j ≤ 64 ∧ i = .int .i64 j ∧ Blk wr 5 gi (B (laidI 54 kf j)) ∧ Blk wr 5 go (B (laidI 92 kf j)) ∧ Below w.heap.size w wr) (fun i _ => 64 - (intOf i).toNat)
  case atStart => exact ⟨0, Nat.zero_le _, rfl, HI0.out, HO0.out, Hb2.out⟩
  case round =>
    clear HI0 HO0 Hb2
    obtain ⟨j, hj, rfl, hI, hO, hb⟩ := hrel
    have HI := hid hI
    have HO := hid hO
    have Hb := hid hb
    by_cases hlt : j < 64
    · have hlt' : (j : Int) < 64 := by omega
      have c1 := hI.cell (B_getD (laidI 54 kf j) j (by rw [laidI_len 54 kf HKL.out j hj]; exact hlt))
      have f1 := hI.frozen j
      have hO' := hO.kept (w' := wr.setCell ⟨gi, j, none⟩ (.int .u8 54)) (heap_setCell_other _ _ _ _ (show go ≠ gi from hne.symm))
      have c2 := hO'.cell (B_getD (laidI 92 kf j) j (by rw [laidI_len 92 kf HKL.out j hj]; exact hlt))
      have f2 := hO'.frozen j
      clear hI hO hb hO'
      go_upto_if 34 with fail
      have HI1 := hid (show Blk ((wr.setCell ⟨gi, j, none⟩ (.int .u8 54)).setCell ⟨go, j, none⟩ (.int .u8 92)) 5 gi (B ((laidI 54 kf j).set j 54)) from
        Blk.kept (w := wr.setCell ⟨gi, j, none⟩ (.int .u8 54)) (by rw [← B_set]; exact Blk.setCell HI.out j _) (heap_setCell_other _ _ _ _ (show gi ≠ go from hne)))
      have HO1 := hid (show Blk ((wr.setCell ⟨gi, j, none⟩ (.int .u8 54)).setCell ⟨go, j, none⟩ (.int .u8 92)) 5 go (B ((laidI 92 kf j).set j 92)) by
        rw [← B_set]
        exact Blk.setCell (Blk.kept HO.out (heap_setCell_other _ _ _ _ (show go ≠ gi from hne.symm))) j _)
      have Hb1 := hid (show Below w.heap.size w ((wr.setCell ⟨gi, j, none⟩ (.int .u8 54)).setCell ⟨go, j, none⟩ (.int .u8 92)) from (Hb.out.setCell (show w.heap.size ≤ gi from hlgi) _).setCell (show w.heap.size ≤ go from hlgo) _)
      clear c1 f1 c2 f2 HI HO Hb
      generalize (wr.setCell ⟨gi, j, none⟩ (.int .u8 54)).setCell ⟨go, j, none⟩ (.int .u8 92) = w2 at *
      by_cases hjn : j < n
      · have hjn' : (j : Int) < (n : Int) := by omega
        obtain ⟨b, hb0⟩ : ∃ b, key.getD j 0 = b := ⟨_, rfl⟩
        obtain ⟨ad, rfl⟩ : ∃ ad, ao = some ad := by
          obtain ⟨ao', c', e, hcc, hnn, _⟩ := HR.out
          injection e with e1 e2 e3
          subst e1
          subst e3
          cases ao with
          | none => have := hnn rfl; rw [B_length, HN.out] at hcc; omega
          | some ad => exact ⟨ad, rfl⟩
        have hcw : w.cell? (ad.add j) = some (.int .u8 b.toNat) := by
          obtain ⟨ao', c', e, _, _, hcl⟩ := HR.out
          injection e with e1 e2 e3
          subst e1
          rw [← hb0]
          exact hcl ad rfl j _ (B_getD key j (by rw [HN.out]; exact hjn))
        have hadw : ad.block < w.heap.size := by
          have := World.block_lt_of_cell? w _ hcw
          rwa [Addr.add_block] at this
        have ck : w2.cell? (ad.add j) = some (.int .u8 b.toNat) := cell_later Hb1.out hcw
        have oi := cellD_of (HI1.out.cell (B_getD ((laidI 54 kf j).set j 54) j (by rw [List.length_set, laidI_len 54 kf HKL.out j hj]; exact hlt)))
        have oo := cellD_of (HO1.out.cell (B_getD ((laidI 92 kf j).set j 92) j (by rw [List.length_set, laidI_len 92 kf HKL.out j hj]; exact hlt)))
        have fi := HI1.out.frozen j
        have fo := HO1.out.frozen j
        obtain ⟨x5, h5⟩ : ∃ x : UInt8, 54 ^^^ b = x := ⟨_, rfl⟩
        obtain ⟨x9, h9⟩ : ∃ x : UInt8, 92 ^^^ b = x := ⟨_, rfl⟩
        have hx54 : bits .xor .u8 54 (b.toNat : Int) = (x5.toNat : Int) := by rw [← h5]; exact bxor 54 b
        have hx92 : bits .xor .u8 92 (b.toNat : Int) = (x9.toNat : Int) := by rw [← h9]; exact bxor 92 b
        have HSI := hid (show ((laidI 54 kf j).set j 54).set j x5 = laidI 54 kf (j + 1) by rw [List.set_set, ← h5, ← hb0, ← HKG.out j hlt]; exact laidI_set 54 kf HKL.out j hlt)
        have HSO := hid (show ((laidI 92 kf j).set j 92).set j x9 = laidI 92 kf (j + 1) by rw [List.set_set, ← h9, ← hb0, ← HKG.out j hlt]; exact laidI_set 92 kf HKL.out j hlt)
        clear hb0 h5 h9 hcw
        go_wp2_with fail
        have HS0 : Hid (∀ (w'' : World) (v : Value), (w''.cell? (ad.add j) = some (.int .u8 b.toNat) ∧ w''.cell? ⟨gi, j, none⟩ = some (cellD w'' ⟨gi, j, none⟩) ∧ w''.frozen? ⟨gi, j, none⟩ = false ∧ w''.cell? ⟨go, j, none⟩ = some (cellD w'' ⟨go, j, none⟩) ∧ w''.frozen? ⟨go, j, none⟩ = false) → (w''.setCell ⟨gi, j, none⟩ v).cell? (ad.add j) = some (.int .u8 b.toNat) ∧ (w''.setCell ⟨gi, j, none⟩ v).cell? ⟨gi, j, none⟩ = some (cellD (w''.setCell ⟨gi, j, none⟩ v) ⟨gi, j, none⟩) ∧ (w''.setCell ⟨gi, j, none⟩ v).frozen? ⟨gi, j, none⟩ = false ∧ (w''.setCell ⟨gi, j, none⟩ v).cell? ⟨go, j, none⟩ = some (cellD (w''.setCell ⟨gi, j, none⟩ v) ⟨go, j, none⟩) ∧ (w''.setCell ⟨gi, j, none⟩ v).frozen? ⟨go, j, none⟩ = false) := by
          rintro w'' v ⟨a1, p1, q1, p2, q2⟩
          refine ⟨?_, cellD_set p1, by rw [World.frozen?_setCell]; exact q1, cellD_other (by intro h; injection h; omega) p2, by rw [World.frozen?_setCell]; exact q2⟩
          rw [World.cell?_setCell_other _ _ _ _ (by intro h; have h := congrArg Addr.block h; rw [Addr.add_block] at h; have h : gi = ad.block := h; omega)]; exact a1
        have HS1 : Hid (∀ (w'' : World) (v : Value), (w''.cell? (ad.add j) = some (.int .u8 b.toNat) ∧ w''.cell? ⟨gi, j, none⟩ = some (cellD w'' ⟨gi, j, none⟩) ∧ w''.frozen? ⟨gi, j, none⟩ = false ∧ w''.cell? ⟨go, j, none⟩ = some (cellD w'' ⟨go, j, none⟩) ∧ w''.frozen? ⟨go, j, none⟩ = false) → (w''.setCell ⟨go, j, none⟩ v).cell? (ad.add j) = some (.int .u8 b.toNat) ∧ (w''.setCell ⟨go, j, none⟩ v).cell? ⟨gi, j, none⟩ = some (cellD (w''.setCell ⟨go, j, none⟩ v) ⟨gi, j, none⟩) ∧ (w''.setCell ⟨go, j, none⟩ v).frozen? ⟨gi, j, none⟩ = false ∧ (w''.setCell ⟨go, j, none⟩ v).cell? ⟨go, j, none⟩ = some (cellD (w''.setCell ⟨go, j, none⟩ v) ⟨go, j, none⟩) ∧ (w''.setCell ⟨go, j, none⟩ v).frozen? ⟨go, j, none⟩ = false) := by
          rintro w'' v ⟨a1, p1, q1, p2, q2⟩
          refine ⟨?_, cellD_other (by intro h; injection h; omega) p1, by rw [World.frozen?_setCell]; exact q1, cellD_set p2, by rw [World.frozen?_setCell]; exact q2⟩
          rw [World.cell?_setCell_other _ _ _ _ (by intro h; have h := congrArg Addr.block h; rw [Addr.add_block] at h; have h : go = ad.block := h; omega)]; exact a1
        refine wp_region_held_drew (S := fun w' => w'.cell? (ad.add j) = some (.int .u8 b.toNat) ∧ w'.cell? ⟨gi, j, none⟩ = some (cellD w' ⟨gi, j, none⟩) ∧ w'.frozen? ⟨gi, j, none⟩ = false ∧ w'.cell? ⟨go, j, none⟩ = some (cellD w' ⟨go, j, none⟩) ∧ w'.frozen? ⟨go, j, none⟩ = false) (by kernel_rfl) (⟨ck, oi, fi, oo, fo⟩) (fun hHeld => ?_)
        refine wpAnyH_take (i := 0) (v := .slice (some ⟨gi, 0, none⟩) 64 64) rfl (by kernel_rfl) (by kernel_rfl) (by kernel_rfl) (fun _ _ _ h => h) (Or.inl ⟨by rfl, by intro w hSw; go_simp⟩) hHeld ?_
        try simp only [Act.put, List.setIfInBounds_toArray, List.set_cons_zero, List.set_cons_succ, List.getElem_toArray, List.getElem_cons_zero, List.getElem_cons_succ]
        refine wpAnyH_take (i := 1) (v := .int .i64 (j : Int)) rfl (by kernel_rfl) (by kernel_rfl) (by kernel_rfl) (fun _ _ _ h => h) (Or.inl ⟨by rfl, by intro w hSw; go_simp⟩) hHeld ?_
        try simp only [Act.put, List.setIfInBounds_toArray, List.set_cons_zero, List.set_cons_succ, List.getElem_toArray, List.getElem_cons_zero, List.getElem_cons_succ]
        refine wpAnyH_take (i := 2) (v := .slice (some ⟨go, 0, none⟩) 64 64) rfl (by kernel_rfl) (by kernel_rfl) (by kernel_rfl) (fun _ _ _ h => h) (Or.inl ⟨by rfl, by intro w hSw; go_simp⟩) hHeld ?_
        try simp only [Act.put, List.setIfInBounds_toArray, List.set_cons_zero, List.set_cons_succ, List.getElem_toArray, List.getElem_cons_zero, List.getElem_cons_succ]
        refine wpAnyH_take (i := 3) (v := .int .i64 (j : Int)) rfl (by kernel_rfl) (by kernel_rfl) (by kernel_rfl) (fun _ _ _ h => h) (Or.inl ⟨by rfl, by intro w hSw; go_simp⟩) hHeld ?_
        try simp only [Act.put, List.setIfInBounds_toArray, List.set_cons_zero, List.set_cons_succ, List.getElem_toArray, List.getElem_cons_zero, List.getElem_cons_succ]
        refine wpAnyH_take (i := 4) (v := .slice (some ad) n cap) rfl (by kernel_rfl) (by kernel_rfl) (by kernel_rfl) (fun _ _ _ h => h) (Or.inl ⟨by rfl, by intro w hSw; go_simp⟩) hHeld ?_
        try simp only [Act.put, List.setIfInBounds_toArray, List.set_cons_zero, List.set_cons_succ, List.getElem_toArray, List.getElem_cons_zero, List.getElem_cons_succ]
        refine wpAnyH_take (i := 5) (v := .int .i64 (j : Int)) rfl (by kernel_rfl) (by kernel_rfl) (by kernel_rfl) (fun _ _ _ h => h) (Or.inl ⟨by rfl, by intro w hSw; go_simp⟩) hHeld ?_
        try simp only [Act.put, List.setIfInBounds_toArray, List.set_cons_zero, List.set_cons_succ, List.getElem_toArray, List.getElem_cons_zero, List.getElem_cons_succ]
        refine wpAnyH_take (i := 6) (v := .pointer (some (ad.add j))) rfl (by kernel_rfl) (by kernel_rfl) (by kernel_rfl) (fun _ _ _ h => h) (Or.inl ⟨by rfl, by intro w hSw; go_simp⟩) hHeld ?_
        try simp only [Act.put, List.setIfInBounds_toArray, List.set_cons_zero, List.set_cons_succ, List.getElem_toArray, List.getElem_cons_zero, List.getElem_cons_succ]
        refine wpAnyH_take (i := 7) (v := .int .u8 b.toNat) rfl (by kernel_rfl) (by kernel_rfl) (by kernel_rfl) (fun _ _ _ h => h) (Or.inl ⟨by rfl, by intro w hSw; have q := hSw.1; go_simp⟩) hHeld ?_
        try simp only [Act.put, List.setIfInBounds_toArray, List.set_cons_zero, List.set_cons_succ, List.getElem_toArray, List.getElem_cons_zero, List.getElem_cons_succ]
        refine wpAnyH_take (i := 8) (v := .int .u8 x5.toNat) rfl (by kernel_rfl) (by kernel_rfl) (by kernel_rfl) (fun _ _ _ h => h) (Or.inl ⟨by rfl, by intro w hSw; go_simp⟩) hHeld ?_
        try simp only [Act.put, List.setIfInBounds_toArray, List.set_cons_zero, List.set_cons_succ, List.getElem_toArray, List.getElem_cons_zero, List.getElem_cons_succ]
        refine wpAnyH_take (i := 9) (v := .slice (some ad) n cap) rfl (by kernel_rfl) (by kernel_rfl) (by kernel_rfl) (fun _ _ _ h => h) (Or.inl ⟨by rfl, by intro w hSw; go_simp⟩) hHeld ?_
        try simp only [Act.put, List.setIfInBounds_toArray, List.set_cons_zero, List.set_cons_succ, List.getElem_toArray, List.getElem_cons_zero, List.getElem_cons_succ]
        refine wpAnyH_take (i := 10) (v := .int .i64 (j : Int)) rfl (by kernel_rfl) (by kernel_rfl) (by kernel_rfl) (fun _ _ _ h => h) (Or.inl ⟨by rfl, by intro w hSw; go_simp⟩) hHeld ?_
        try simp only [Act.put, List.setIfInBounds_toArray, List.set_cons_zero, List.set_cons_succ, List.getElem_toArray, List.getElem_cons_zero, List.getElem_cons_succ]
        refine wpAnyH_take (i := 11) (v := .pointer (some (ad.add j))) rfl (by kernel_rfl) (by kernel_rfl) (by kernel_rfl) (fun _ _ _ h => h) (Or.inl ⟨by rfl, by intro w hSw; go_simp⟩) hHeld ?_
        try simp only [Act.put, List.setIfInBounds_toArray, List.set_cons_zero, List.set_cons_succ, List.getElem_toArray, List.getElem_cons_zero, List.getElem_cons_succ]
        refine wpAnyH_take (i := 12) (v := .int .u8 b.toNat) rfl (by kernel_rfl) (by kernel_rfl) (by kernel_rfl) (fun _ _ _ h => h) (Or.inl ⟨by rfl, by intro w hSw; have q := hSw.1; go_simp⟩) hHeld ?_
        try simp only [Act.put, List.setIfInBounds_toArray, List.set_cons_zero, List.set_cons_succ, List.getElem_toArray, List.getElem_cons_zero, List.getElem_cons_succ]
        refine wpAnyH_take (i := 13) (v := .int .u8 x9.toNat) rfl (by kernel_rfl) (by kernel_rfl) (by kernel_rfl) (fun _ _ _ h => h) (Or.inl ⟨by rfl, by intro w hSw; go_simp⟩) hHeld ?_
        try simp only [Act.put, List.setIfInBounds_toArray, List.set_cons_zero, List.set_cons_succ, List.getElem_toArray, List.getElem_cons_zero, List.getElem_cons_succ]
        refine wpAnyH_take (i := 14) (v := .pointer (some ⟨gi, j, none⟩)) rfl (by kernel_rfl) (by kernel_rfl) (by kernel_rfl) (fun _ _ _ h => h) (Or.inl ⟨by rfl, by intro w hSw; go_simp⟩) hHeld ?_
        try simp only [Act.put, List.setIfInBounds_toArray, List.set_cons_zero, List.set_cons_succ, List.getElem_toArray, List.getElem_cons_zero, List.getElem_cons_succ]
        refine wpAnyH_ready (rs := [15]) (by kernel_rfl) (by simp) ?_
        refine AllReadyH.cons rfl (fun K hK => ?_) AllReadyH.nil
        go_simp
        refine hK.out _ _ (HS0.out _ _ hHeld) (fun hHeld => ?_)
        clear hK K
        try simp only [Act.put, List.setIfInBounds_toArray, List.set_cons_zero, List.set_cons_succ, List.getElem_toArray, List.getElem_cons_zero, List.getElem_cons_succ]
        refine wpAnyH_take (i := 16) (v := .pointer (some ⟨go, j, none⟩)) rfl (by kernel_rfl) (by kernel_rfl) (by kernel_rfl) (fun _ _ _ h => h) (Or.inl ⟨by rfl, by intro w hSw; go_simp⟩) hHeld ?_
        try simp only [Act.put, List.setIfInBounds_toArray, List.set_cons_zero, List.set_cons_succ, List.getElem_toArray, List.getElem_cons_zero, List.getElem_cons_succ]
        refine wpAnyH_ready (rs := [17]) (by kernel_rfl) (by simp) ?_
        refine AllReadyH.cons rfl (fun K hK => ?_) AllReadyH.nil
        go_simp
        refine hK.out _ _ (HS1.out _ _ hHeld) (fun hHeld => ?_)
        clear hK K
        try simp only [Act.put, List.setIfInBounds_toArray, List.set_cons_zero, List.set_cons_succ, List.getElem_toArray, List.getElem_cons_zero, List.getElem_cons_succ]
        refine wpAnyH_done (by kernel_rfl) ?_ _
        clear ck oi oo fi fo hx54 hx92 HS0 HS1
        have HI2 := hid (show Blk ((w2.setCell ⟨gi, j, none⟩ (.int .u8 x5.toNat)).setCell ⟨go, j, none⟩ (.int .u8 x9.toNat)) 5 gi (B (laidI 54 kf (j + 1))) by
          refine Blk.kept (w := w2.setCell ⟨gi, j, none⟩ (.int .u8 x5.toNat)) ?_ (heap_setCell_other _ _ _ _ (show gi ≠ go from hne))
          rw [← HSI.out, ← B_set (((laidI 54 kf j).set j 54))]
          exact Blk.setCell HI1.out j _)
        have HO2 := hid (show Blk ((w2.setCell ⟨gi, j, none⟩ (.int .u8 x5.toNat)).setCell ⟨go, j, none⟩ (.int .u8 x9.toNat)) 5 go (B (laidI 92 kf (j + 1))) by
          rw [← HSO.out, ← B_set (((laidI 92 kf j).set j 92))]
          exact Blk.setCell (Blk.kept HO1.out (heap_setCell_other _ _ _ _ (show go ≠ gi from hne.symm))) j _)
        have Hb2 := hid (show Below w.heap.size w ((w2.setCell ⟨gi, j, none⟩ (.int .u8 x5.toNat)).setCell ⟨go, j, none⟩ (.int .u8 x9.toNat)) from (Hb1.out.setCell (show w.heap.size ≤ gi from hlgi) _).setCell (show w.heap.size ≤ go from hlgo) _)
        go_wp2_with fail
        go_roundw
        case rel => exact ⟨j + 1, by omega, by go_num, HI2.out, HO2.out, Hb2.out.drew⟩
        case measure => simp [intOf]; omega
      · have hz : key.getD j 0 = 0 := by rw [List.getD_eq_getElem?_getD, List.getElem?_eq_none (by rw [HN.out]; omega)]; rfl
        have HI2 := hid (show Blk w2 5 gi (B (laidI 54 kf (j + 1))) by
          rw [← laidI_set 54 kf HKL.out j hlt, HKG.out j hlt, hz]
          exact HI1.out)
        have HO2 := hid (show Blk w2 5 go (B (laidI 92 kf (j + 1))) by
          rw [← laidI_set 92 kf HKL.out j hlt, HKG.out j hlt, hz]
          exact HO1.out)
        clear hz
        go_wp2_with fail
        go_roundw
        case rel => exact ⟨j + 1, by omega, by go_num, HI2.out, HO2.out, Hb1.out⟩
        case measure => simp [intOf]; omega
    · have hj64 : j = 64 := by omega
      subst hj64
      obtain ⟨il, hil⟩ : ∃ il, maskS 54 kf = il := ⟨_, rfl⟩
      obtain ⟨ol, hol⟩ : ∃ ol, maskS 92 kf = ol := ⟨_, rfl⟩
      have hill : il.length = 64 := by rw [← hil, maskS_len, HKL.out]
      have holl : ol.length = 64 := by rw [← hol, maskS_len, HKL.out]
      rw [laidI_end 54 kf HKL.out, hil] at hI
      rw [laidI_end 92 kf HKL.out, hol] at hO
      have HI := hid (hI.owns (n := 64) (by rw [B_length, hill]) (by unfold maxLen; omega))
      have HO := hid (hO.owns (n := 64) (by rw [B_length, holl]) (by unfold maxLen; omega))
      obtain ⟨sl, hsl⟩ : ∃ sl, shaS (il ++ text) = sl := ⟨_, rfl⟩
      have hsll : sl.length = 32 := by rw [← hsl, shaS_len]
      obtain ⟨ms, hms⟩ : ∃ ms, B (shaS (ol ++ sl)) = ms := ⟨_, rfl⟩
      have HMs := hid hms
      have HMac := hid (show B (macS key text) = ms by rw [macS, HKF.out, hol, hil, hsl, hms])
      have HE := hid (show ∀ w : World, (Op.equalIn 10000 26 (.agg ms.toArray) (.agg ms.toArray)).run Tryd.prog w = .ok true w by rw [← hms]; exact eqH _ (shaS_len _))
      have Hill := hid hill
      have Holl := hid holl
      have HSL := hid hsl
      have HSLL := hid hsll
      have HRr := hid (HX.out.later Hb.out)
      have hlo : go < wr.heap.size := hO.lt
      obtain ⟨ss, hss⟩ : ∃ ss, B sl = ss := ⟨_, rfl⟩
      have hssl : ss.length = 32 := by rw [← hss, B_length, hsll]
      have Hsso := hid (show ∀ v ∈ ss, v.oneCell' = true by rw [← hss]; exact B_one _)
      have Hssi := hid (show (Tryd.prog.info? 26).map (·.size) = some ss.length by rw [hssl]; kernel_rfl)
      have Hssl := hid hssl
      have HSS := hid hss
      clear hI hO hb hil hol hill holl hsl hsll hms hss hssl
      go_wp2_with (at_builtin; go_must (refine wpList_append_src _ rfl _ _ 22 22 rfl 5 i0 (.int .u8 0) Tryd.underlying22 hi hz0 hz1 hz2 rfl gi 64 64 _ rfl HI.out _ m _ rfl (Src.ofBytes _ Tryd.underlying22 HM.out HRr.out) (by omega) ?_); intro g4 cap4 w4 hG4; replace hG4 := hid hG4)
      have HR4 := hid (show Reads w4 (.slice (some ⟨g4, 0, none⟩) (64 + m) cap4) (B (il ++ text)) by rw [B_append]; exact hG4.out.own.reads)
      have Hb4 := hid (show Below w.heap.size w w4 from hG4.out.below Hb.out hlgi)
      have HO4 := hid (HO.out.kept (hG4.out.grown.block go hlo (by intro e; injection e; omega)))
      clear hG4 HI HO HRr Hb
      refine (refSum_any (il ++ text) _ (64 + m) cap4 (by rw [List.length_append, Hill.out, HM.out]) w4 HR4.out (by omega)).mono ?_
      rintro _ w5 ⟨rfl, hb5⟩
      rw [HSL.out, HSS.out]
      have Hb5 := hid (below_seq Hb4.out hb5)
      have HO5 := hid (HO4.out.later hb5)
      clear hb5 Hb4 HO4 HR4
      obtain ⟨L5, hL5⟩ : ∃ L5, w5.heap.size = L5 := ⟨_, rfl⟩
      have hlt5 : w.heap.size ≤ L5 := by rw [← hL5]; exact Hb5.out.size
      have hlo5 : go < L5 := by rw [← hL5]; exact HO5.out.lt
      go_wp2_with (first
        | (show wpList _ _ _ (⟨some 8, Op.alloc _, _, _, _, _⟩ :: _) _ _; go_must (refine wpList_alloc_blk rfl 26 rfl _ zeroHash L5 hL5 ?_); intro w6 hB6 hb6 hs6; replace hB6 := hid hB6; replace hb6 := hid hb6; have ht6 := hid (hB6.out.there (o := 0) (n := ss.length) (by rw [B_length, List.length_replicate, Hssl.out]; omega)))
        | (show wpList _ _ _ (⟨none, Op.store _ _ _, _, _, _, _⟩ :: _) _ _; go_must (refine wpList_store_list rfl 26 _ _ rfl L5 0 ss rfl rfl ht6.out Hssi.out Hsso.out ?_); intro w7 hw7; replace hw7 := hid hw7))
      have HR7 := hid (show Reads w7 (.slice (some ⟨L5, 0, none⟩) 32 32) (B sl) by
        have hB7 : Blk w7 26 L5 ss := by rw [hw7.out]; exact Blk.over (by rw [B_length, List.length_replicate, Hssl.out]) hB6.out
        rw [← HSS.out] at hB7
        exact hB7.whole HSLL.out)
      have HO7 := hid (show Owns w7 5 go 64 64 (B ol) by
        rw [hw7.out]
        exact (HO5.out.kept (hb6.out.block go (by omega))).kept (setCells_heap (by omega) _ _ _))
      have Hb7 := hid (show Below w.heap.size w w7 by rw [hw7.out]; exact below_setCells hlt5 _ _ (Hb5.out.trans (hb6.out.mono hlt5)))
      clear hw7 ht6 hB6 hb6 hs6 Hb5 HO5
      refine wp_region_held_drew (S := fun w' => True) (by kernel_rfl) (trivial) (fun hHeld => ?_)
      refine wpAnyH_take (i := 0) (v := .slice ao n cap) rfl (by kernel_rfl) (by kernel_rfl) (by kernel_rfl) (fun _ _ _ h => h) (Or.inl ⟨by rfl, by intro w hSw; go_simp⟩) hHeld ?_
      try simp only [Act.put, List.setIfInBounds_toArray, List.set_cons_zero, List.set_cons_succ, List.getElem_toArray, List.getElem_cons_zero, List.getElem_cons_succ]
      refine wpAnyH_take (i := 1) (v := .slice bo m bc) rfl (by kernel_rfl) (by kernel_rfl) (by kernel_rfl) (fun _ _ _ h => h) (Or.inl ⟨by rfl, by intro w hSw; go_simp⟩) hHeld ?_
      try simp only [Act.put, List.setIfInBounds_toArray, List.set_cons_zero, List.set_cons_succ, List.getElem_toArray, List.getElem_cons_zero, List.getElem_cons_succ]
      refine wpAnyH_take (i := 4) (v := .slice (some ⟨go, 0, none⟩) 64 64) rfl (by kernel_rfl) (by kernel_rfl) (by kernel_rfl) (fun _ _ _ h => h) (Or.inl ⟨by rfl, by intro w hSw; go_simp⟩) hHeld ?_
      try simp only [Act.put, List.setIfInBounds_toArray, List.set_cons_zero, List.set_cons_succ, List.getElem_toArray, List.getElem_cons_zero, List.getElem_cons_succ]
      refine wpAnyH_take (i := 5) (v := .slice (some ⟨L5, 0, none⟩) 32 32) rfl (by kernel_rfl) (by kernel_rfl) (by kernel_rfl) (fun _ _ _ h => h) (Or.inl ⟨by rfl, by intro w hSw; go_simp⟩) hHeld ?_
      try simp only [Act.put, List.setIfInBounds_toArray, List.set_cons_zero, List.set_cons_succ, List.getElem_toArray, List.getElem_cons_zero, List.getElem_cons_succ]
      refine wpAnyH_ready (rs := [2]) (by kernel_rfl) (by simp) ?_
      refine AllReadyH.cons rfl (fun K hK => ?_) AllReadyH.nil
      go_simp
      refine hK.out _ _ (trivial) (fun hHeld => ?_)
      clear hK K
      try simp only [Act.put, List.setIfInBounds_toArray, List.set_cons_zero, List.set_cons_succ, List.getElem_toArray, List.getElem_cons_zero, List.getElem_cons_succ]
      have HbA := hid (show Below w.heap.size w (w7.drew.alloc (.cells #[.slice bo m bc] 22)) from below_seq Hb7.out.drew (below_new _ _))
      have HOA := hid (show Owns (w7.drew.alloc (.cells #[.slice bo m bc] 22)) 5 go 64 64 (B ol) from HO7.out.later (((Below.refl _ _).drew).alloc (Nat.le_refl _) _))
      have HRA := hid (show Reads (w7.drew.alloc (.cells #[.slice bo m bc] 22)) (.slice (some ⟨L5, 0, none⟩) 32 32) (B sl) from HR7.out.later (((Below.refl _ _).drew).alloc (Nat.le_refl _) _))
      refine wpAnyH_ready (rs := [3]) (by kernel_rfl) (by simp) ?_
      refine AllReadyH.cons rfl (fun K hK => ?_) AllReadyH.nil
      go_simp
      refine (Mac_any key ao n cap HN.out _ 1 1 [text] rfl _ (HT.out.below HbA.out h2) (HR.out.later HbA.out) HC.out (by omega) (parts_new (w := w7.drew) (HX.out.later Hb7.out.drew) HM.out HBc.out) (by omega) (by rw [show [text].flatten = text by simp, HM.out]; omega)).mono ?_
      rintro _ w8 ⟨rfl, hb8⟩
      rw [show [text].flatten = text by simp, HMac.out]
      refine hK.out _ _ (trivial) (fun hHeld => ?_)
      clear hK K
      try simp only [Act.put, List.setIfInBounds_toArray, List.set_cons_zero, List.set_cons_succ, List.getElem_toArray, List.getElem_cons_zero, List.getElem_cons_succ]
      have Hb8 := hid (below_seq HbA.out hb8)
      have HO8 := hid (HOA.out.later hb8)
      have HR8 := hid (HRA.out.later hb8)
      clear hb8 HbA HOA HRA
      refine wpAnyH_ready (rs := [6]) (by kernel_rfl) (by simp) ?_
      refine AllReadyH.cons rfl (fun K hK => ?_) AllReadyH.nil
      refine Eq.mpr (if_pos (by rfl)) ?_
      refine wp_append_src _ _ _ 22 22 rfl 5 i0 (.int .u8 0) Tryd.underlying22 hi hz0 hz1 hz2 rfl go 64 64 _ rfl HO8.out _ 32 _ rfl (Src.ofBytes _ Tryd.underlying22 HSLL.out HR8.out) (by omega) ?_
      intro g9 cap9 w9 hG9
      refine hK.out _ _ trivial (fun hHeld => ?_)
      clear hK K
      have HR9 := hid (show Reads w9 (.slice (some ⟨g9, 0, none⟩) (64 + 32) cap9) (B (ol ++ sl)) by rw [B_append]; exact hG9.own.reads)
      have Hb9 := hid (show Below w.heap.size w w9 from hG9.below Hb8.out hlgo)
      clear hG9 HO8 HR8
      try simp only [Act.put, List.setIfInBounds_toArray, List.set_cons_zero, List.set_cons_succ, List.getElem_toArray, List.getElem_cons_zero, List.getElem_cons_succ]
      refine wpAnyH_ready (rs := [7]) (by kernel_rfl) (by simp) ?_
      refine AllReadyH.cons rfl (fun K hK => ?_) AllReadyH.nil
      go_simp
      refine (refSum_any (ol ++ sl) _ 96 cap9 (by rw [List.length_append, Holl.out, HSLL.out]) w9 HR9.out (by omega)).mono ?_
      rintro _ w10 ⟨rfl, hb10⟩
      rw [HMs.out]
      refine hK.out _ _ (trivial) (fun hHeld => ?_)
      clear hK K
      try simp only [Act.put, List.setIfInBounds_toArray, List.set_cons_zero, List.set_cons_succ, List.getElem_toArray, List.getElem_cons_zero, List.getElem_cons_succ]
      have Hb10 := hid (below_seq Hb9.out hb10)
      clear hb10
      refine wpAnyH_take (i := 8) (v := .bool true) rfl (by kernel_rfl) (by kernel_rfl) (by kernel_rfl) (fun _ _ _ h => h) (Or.inl ⟨by rfl, by intro w hSw; have q := HE.out w; go_simp⟩) hHeld ?_
      try simp only [Act.put, List.setIfInBounds_toArray, List.set_cons_zero, List.set_cons_succ, List.getElem_toArray, List.getElem_cons_zero, List.getElem_cons_succ]
      refine wpAnyH_take (i := 9) (v := .bool true) rfl (by kernel_rfl) (by kernel_rfl) (by kernel_rfl) (fun _ _ _ h => h) (Or.inl ⟨by rfl, by intro w hSw; go_simp⟩) hHeld ?_
      try simp only [Act.put, List.setIfInBounds_toArray, List.set_cons_zero, List.set_cons_succ, List.getElem_toArray, List.getElem_cons_zero, List.getElem_cons_succ]
      refine wpAnyH_done (by kernel_rfl) ?_ _
      go_wp2_with fail
      go_ret
      exact ⟨rfl, Hb10.out⟩

theorem lays_row (a0 : Option Addr) (len0 cap0 : Nat) (z0 : List Int) (w0 : World) (h0 : IsRow .u8 w0 a0 len0 cap0 z0) (a1 : Option Addr) (len1 cap1 : Nat) (z1 : List Int) (h1 : IsRow .u8 w0 a1 len1 cap1 z1) (ht : Tabs w0) :
    Calls Tryd.prog 6 #[.slice a0 len0 cap0, .slice a1 len1 cap1] w0 fun e w' => e = .returned (.bool true) ∧ Below w0.heap.size w0 w' := by
  obtain ⟨l, hl, _, hr⟩ := bytes_of_row h0
  rw [hl] at hr
  obtain ⟨l1, hl1, _, hr1⟩ := bytes_of_row h1
  rw [hl1] at hr1
  exact lays_any l a0 len0 cap0 hl l1 a1 len1 cap1 hl1 w0 ht hr h0.cap hr1 h1.cap
end Go.Proofs.YtnflkibkionjmaaDoor
