/- The contract of Sum: SHA-256 of all parts, one behind the other. -/
import Derived.Test.YtnflkibkionjmaaDoorEnd
import Derived.Great.BuildSlice
namespace Go.Proofs.YtnflkibkionjmaaDoor
open Go.RowKit
set_option linter.unusedSimpArgs false
set_option linter.unusedVariables false
attribute [local go_sem] wadd wadd' wxor wand wnot

/-- A slice of slices of bytes that reads as ls. -/
def Parts (w : World) (v : Value) (ls : List (List UInt8)) : Prop :=
  ∃ ao cap, v = .slice ao ls.length cap ∧ ls.length ≤ cap ∧ (ao = none → ls = []) ∧ ∀ ad, ao = some ad → ∀ j l, ls[j]? = some l → ∃ p c, w.cell? (ad.add j) = some (.slice p l.length c) ∧ Reads w (.slice p l.length c) (B l) ∧ c ≤ maxLen

theorem Parts.later {w w' : World} {v : Value} {ls : List (List UInt8)} (h : Parts w v ls) (hb : Below w.heap.size w w') : Parts w' v ls := by
  obtain ⟨ao, cap, e, hc, hn, hcell⟩ := h
  refine ⟨ao, cap, e, hc, hn, fun ad he j l hj => ?_⟩
  obtain ⟨p, c, h1, h2, h3⟩ := hcell ad he j l hj
  exact ⟨p, c, cell_later hb h1, h2.later hb, h3⟩

theorem zeroWork : (Tryd.prog.info? 48).bind (fun i => i.zero.map fun z => z.cells.toList) = some (wk (List.replicate 8 0) 0 0 (List.replicate 64 0) (List.replicate 64 0) (List.replicate 64 0)) := by kernel_rfl
theorem builtWork : Tryd.prog.built 48 [(0, .agg (U H0.l).toArray)] = some (wk H0.l 0 0 (List.replicate 64 0) (List.replicate 64 0) (List.replicate 64 0)).toArray := by kernel_rfl
theorem spread0 : spreadS (List.replicate 64 0) = List.replicate 64 0 := by decide +kernel
theorem infoWork : (Tryd.prog.info? 48).map (·.size) = some 202 := by kernel_rfl

theorem reads_bound {w : World} {p : Option Addr} {n c : Nat} {xs : List Value} (h : Reads w (.slice p n c) xs) (hne : xs ≠ []) : ∀ ad, p = some ad → ad.block < w.heap.size := by
  intro ad he
  obtain ⟨p', c', e, hc, hn, hcell⟩ := h
  injection e with e1 e2 e3
  subst e1
  cases xs with
  | nil => exact absurd rfl hne
  | cons u xs =>
    have := World.block_lt_of_cell? w _ (hcell ad he 0 u rfl)
    rwa [Addr.add_block] at this

theorem wpList_build_one {P : Program} {ops : Array Oper} {rest : List Oper} {o : Oper} {a : Act} {w : World} {Q : Exit → Act → World → Prop} (hg : o.guard = none) (t : TypeId) (x : Operand) (ho : o.op = .build t #[(0, x)])
    (v : Value) (hx : a.eval x = v) (cells : Array Value) (hf : P.built t [(0, v)] = some cells)
    (h : wpList P ops Q rest (a.put o.dst (.agg cells)) w) : wpList P ops Q (o :: rest) a w :=
  wpList_buildTo hg t _ ho _ rfl cells (by rw [List.map_toArray]; simp only [List.map_cons, List.map_nil, hx]; exact hf) h

set_option maxRecDepth 100000 in
set_option maxHeartbeats 4000000 in
theorem Sum_any (w : World) (ht : Tabs w) (v : Value) (ls : List (List UInt8)) (hp : Parts w v ls) (hln : ls.length ≤ 1000000) (htot : ls.flatten.length ≤ 1000000) :
    Calls Tryd.prog 15 #[v] w fun e w' => e = .returned (.agg (B (shaS ls.flatten)).toArray) ∧ Below w.heap.size w w' := by
  have HP := hid hp
  have HT := hid ht
  have h2w := ht.two
  obtain ⟨ao, cap, rfl, hcap, hnone, hcell⟩ := hp
  have HN := hid hnone
  have HC := hid hcell
  obtain ⟨L, hL⟩ : ∃ L, w.heap.size = L := ⟨_, rfl⟩
  obtain ⟨n, hn⟩ : ∃ n, ls.length = n := ⟨_, rfl⟩
  rw [hn] at hcap HP hln ⊢
  have HLN := hid hn
  clear hn hnone hcell ht
  have hi8 := hid (show (Tryd.prog.info? 43).map (·.size) = some (U H0.l).length by kernel_rfl)
  have hlw : ∀ s z h b l ws, s.length = 8 → b.length = 64 → l.length = 64 → ws.length = 64 → (wk s z h b l ws).length = 202 := by
    intro s z h b l ws h1 h2 h3 h4
    simp only [wk, List.length_append, U_length, B_length, h1, h2, h3, h4, List.length_cons, List.length_nil]
  have how : ∀ s z h b l ws, ∀ v ∈ wk s z h b l ws, v.oneCell' = true := by
    intro s z h b l ws v hv
    simp only [wk, List.mem_append, List.mem_cons, List.not_mem_nil, or_false] at hv
    rcases hv with hv | (rfl | rfl) | hv | hv | hv
    · exact U_one _ v hv
    · rfl
    · rfl
    · exact B_one _ v hv
    · exact B_one _ v hv
    · exact U_one _ v hv
  obtain ⟨W0, hW0⟩ : ∃ W0, wk H0.l 0 0 (List.replicate 64 0) (List.replicate 64 0) (List.replicate 64 0) = W0 := ⟨_, rfl⟩
  have hW0l : W0.length = 202 := by rw [← hW0]; exact hlw _ _ _ _ _ _ rfl List.length_replicate List.length_replicate List.length_replicate
  have HW0o := hid (show ∀ v ∈ W0, v.oneCell' = true by rw [← hW0]; exact how _ _ _ _ _ _)
  have HB0 := hid (show Tryd.prog.built 48 [(0, .agg (U H0.l).toArray)] = some W0.toArray by rw [← hW0]; exact builtWork)
  have Hi0 := hid (show (Tryd.prog.info? 48).map (·.size) = some W0.length by rw [hW0l]; exact infoWork)
  have HZL := hid (hlw (List.replicate 8 0) 0 0 (List.replicate 64 0) (List.replicate 64 0) (List.replicate 64 0) List.length_replicate List.length_replicate List.length_replicate List.length_replicate)
  have HW0 := hid hW0
  have HW0l := hid hW0l
  clear hlw how hW0 hW0l
  go_enter Tryd.func15, Tryd.ntmps15
  go_wp2_with (first
    | (show wpList _ _ _ (⟨some 2, Op.alloc _, _, _, _, _⟩ :: _) _ _; go_must (refine wpList_alloc_blk rfl 26 rfl _ zeroHash L hL ?_); intro w1 hB1 hb1 hs1; replace hB1 := hid hB1; replace hb1 := hid hb1; have hr1 := hid (HT.out.below hb1.out (by omega)).begin)
    | (show wpList _ _ _ (⟨some 6, Op.load _ _, _, _, _, _⟩ :: _) _ _; go_must (refine wpList_load_mid rfl 43 _ rfl 0 0 rfl (U H0.l) _ hr1.out Tryd.underlying43 rfl hi8.out ?_))
    | (show wpList _ _ _ (⟨some 7, Op.build _ _, _, _, _, _⟩ :: _) _ _; go_must (refine wpList_build_one rfl 48 _ rfl (.agg (U H0.l).toArray) rfl W0.toArray HB0.out ?_))
    | (show wpList _ _ _ (⟨some 3, Op.alloc _, _, _, _, _⟩ :: _) _ _; go_must (refine wpList_alloc_blk rfl 48 rfl _ zeroWork (L + 1) hs1 ?_); intro w2 hB2 hb2 hs2; replace hB2 := hid hB2; replace hb2 := hid hb2; have ht2 := hid (hB2.out.there (o := 0) (n := W0.length) (by rw [HZL.out, HW0l.out]; omega)))
    | (show wpList _ _ _ (⟨none, Op.store _ _ _, _, _, _, _⟩ :: _) _ _; go_must (refine wpList_store_list rfl 48 _ _ rfl (L + 1) 0 W0 rfl rfl ht2.out Hi0.out HW0o.out ?_); intro w3 hw3; replace hw3 := hid hw3))
  have hw3B : Blk w3 48 (L + 1) W0 := by
    rw [hw3.out]
    have := Blk.setCells (t := 48) (g := L + 1) W0 [] (wk (List.replicate 8 0) 0 0 (List.replicate 64 0) (List.replicate 64 0) (List.replicate 64 0)) [] (w := w2) (o := 0) (by rw [List.nil_append, List.append_nil]; exact hB2.out) (by rw [HZL.out, HW0l.out]) rfl
    rw [List.nil_append, List.append_nil] at this
    exact this
  have hWk3 := hid (show Wk w3 48 (L + 1) 0 [] by
    refine ⟨List.replicate 64 0, List.replicate 64 0, List.length_replicate, List.length_replicate, rfl, ?_⟩
    rw [spread0]
    have h := hw3B
    rw [← HW0.out] at h
    exact h)
  have hb3 : Below L w w3 := by rw [hw3.out]; exact below_setCells (by omega) _ _ (hb1.out.trans (hb2.out.mono (by omega)))
  have hBL3 := hid (show Blk w3 26 L (B (List.replicate 32 0)) by
    rw [hw3.out]
    exact (hB1.out.kept (hb2.out.block L (by omega))).kept (setCells_heap (by omega) _ _ _))
  have Hb3 := hid hb3
  have hs3 : L + 2 ≤ w3.heap.size := by have := hw3B.lt; omega
  clear hw3 hw3B hb3 hB1 hb1 hB2 hb2 hs1 hs2 ht2 hr1 hi8 HB0 Hi0 HZL HW0 HW0l HW0o
  go_loopw [5, 10] (fun p i wr => ∃ j : Nat, j ≤ n ∧ i = .int .i64 j ∧ Wk wr 48 (L + 1) (((ls.take j).flatten.length : Nat) : Int) (ls.take j).flatten ∧ Blk wr 26 L (B (List.replicate 32 0)) ∧ Below L w wr) (fun _ i _ => n - (intOf i).toNat)
  case atStart => exact ⟨0, Nat.zero_le _, rfl, hWk3.out, hBL3.out, Hb3.out⟩
  case round =>
    obtain ⟨j, hj, rfl, hW, hB, hb⟩ := hrel
    have HW := hid hW
    have HB := hid hB
    have Hb := hid hb
    have hsz := hb.size
    have hlt2 := hW.lt
    clear hW hB hb
    by_cases hlt : j < n
    · have hlt' : (j : Int) < (n : Int) := by omega
      obtain ⟨l, hl⟩ : ∃ l, ls[j]? = some l := ⟨_, List.getElem?_eq_getElem (by rw [HLN.out]; exact hlt)⟩
      cases ao with
      | none => have := HN.out rfl; rw [this] at hl; simp at hl
      | some ad =>
      obtain ⟨p, c, hc1, hc2, hc3⟩ := HC.out ad rfl j l hl
      have hcr := cell_later (w := w) (by rw [hL]; exact Hb.out) hc1
      have HRD := hid (hc2.later (by rw [hL]; exact Hb.out))
      have HOF := hid (show B l ≠ [] → Off p (L + 1) from fun hne ad he => by have := reads_bound hc2 hne ad he; omega)
      have HC3 := hid hc3
      have hfl : (ls.take (j + 1)).flatten = (ls.take j).flatten ++ l := by
        rw [List.take_add_one, hl]
        simp
      have HFL := hid hfl
      have hbd : (ls.take j).flatten.length + l.length ≤ 1000000 := by
        have h1 : (ls.take (j + 1)).flatten.length ≤ ls.flatten.length := by
          rw [← List.take_append_drop (j + 1) ls, List.flatten_append, List.length_append, List.take_append_drop]
          omega
        rw [hfl, List.length_append] at h1
        omega
      have HBD := hid hbd
      clear hc1 hc2 hc3 hfl hbd hl
      go_wp2_with fail
      refine (add_any (L + 1) (by omega) _ _ l p c _ HW.out (HT.out.below Hb.out (by omega)) HRD.out HOF.out HC3.out).mono ?_
      rintro e w4 ⟨rfl, hW4, hg4⟩
      go_wp2_with fail
      go_roundw
      case rel =>
        refine ⟨j + 1, by omega, by go_num, ?_, HB.out.kept (hg4.block L HB.out.lt (by intro e; injection e; omega)), Hb.out.trans (grown_below hg4 L (by intro k hk; cases hk; omega) (by omega))⟩
        rw [HFL.out]
        have := HBD.out
        rw [IntWalk.u64_in _ (by omega)] at hW4
        rw [List.length_append]
        exact hW4
      case measure => simp [intOf]; omega
    · have hjn : j = n := by omega
      subst hjn
      have hfl : (ls.take j).flatten = ls.flatten := by rw [List.take_of_length_le (by rw [HLN.out]; omega)]
      have HWf := hid (show Wk wr 48 (L + 1) ((ls.flatten.length : Nat) : Int) ls.flatten by have h := HW.out; rw [hfl] at h; exact h)
      obtain ⟨bs, hbs⟩ : ∃ bs, B (shaS ls.flatten) = bs := ⟨_, rfl⟩
      have hbl : bs.length = 32 := by rw [← hbs, B_length, shaS_len]
      have ho := hid (show ∀ v ∈ bs, v.oneCell' = true by rw [← hbs]; exact B_one _)
      have hi := hid (show (Tryd.prog.info? 26).map (·.size) = some bs.length by rw [hbl]; kernel_rfl)
      have HE := hid hbs
      have HBL32 := hid hbl
      clear hfl hbs hbl HW
      go_wp2_with fail
      refine (end_any (L + 1) (by omega) _ (by omega) _ HWf.out (HT.out.below Hb.out (by omega))).mono ?_
      rintro e w4 ⟨rfl, hg4⟩
      rw [HE.out]
      have ht4 := hid (show w4.there L 0 bs.length from Blk.there (HB.out.kept (hg4.block L HB.out.lt (by intro e; injection e; omega))) (by rw [B_length, List.length_replicate, HBL32.out]; omega))
      have hb4 := hid (show Below L w w4 from Hb.out.trans (grown_below hg4 L (by intro k hk; cases hk; omega) (by omega)))
      clear hg4
      go_wp2_with (show wpList _ _ _ (⟨none, Op.store _ _ _, _, _, _, _⟩ :: _) _ _; go_must (refine wpList_store_list rfl 26 _ _ rfl L 0 bs rfl rfl ht4.out hi.out ho.out ?_); intro w5 hw5; replace hw5 := hid hw5)
      refine ret_cell 2 26 rfl L rfl bs _ ?_ Tryd.underlying26 rfl hi.out rfl ⟨by rw [HE.out], ?_⟩
      · rw [hw5.out]
        exact World.rangeAt_setCells_same w4 L 0 bs ht4.out
      · rw [hw5.out, hL]
        exact below_setCells (Nat.le_refl _) _ _ hb4.out
end Go.Proofs.YtnflkibkionjmaaDoor
