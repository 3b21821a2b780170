/- Texts laid together: Gen2, MacFit, MacMask. -/
import Derived.Test.YtinifnpajkldbaaDoorPk11

/- Slices of slices of bytes: of none, one, two; a block that reads as bytes. -/
namespace Go.Proofs.YtinifnpajkldbaaDoor
open Go.RowKit
set_option linter.unusedSimpArgs false
set_option linter.unusedVariables false

theorem reads_row {w : World} {g : Nat} {C : Array Value} {t : TypeId} {fr : Nat × Nat} {l : List UInt8} (h : w.heap[g]? = some (.cells C t fr)) (hC : C.toList = B l) (n cap : Nat) (hn : l.length = n) (hc : n ≤ cap) : Reads w (.slice (some ⟨g, 0, none⟩) n cap) (B l) := by
  subst hn
  refine ⟨some ⟨g, 0, none⟩, cap, by rw [B_length], by rw [B_length]; exact hc, (fun h => by cases h), fun ad he j u hj => ?_⟩
  cases he
  rw [Addr.add_lit, Nat.zero_add, cell_of_row w g j C t fr h, ← Array.getElem?_toList, hC]
  exact hj

theorem Parts.nil (w : World) : Parts w (.slice none 0 0) [] := ⟨none, 0, rfl, Nat.le_refl _, fun _ => rfl, fun _ h => by cases h⟩

theorem Parts.one {w : World} {g : Nat} {t : TypeId} {fr : Nat × Nat} {p : Option Addr} {n c : Nat} {l : List UInt8} (h : w.heap[g]? = some (.cells #[.slice p n c] t fr)) (hr : Reads w (.slice p n c) (B l)) (hl : l.length = n) (hc : c ≤ maxLen) : Parts w (.slice (some ⟨g, 0, none⟩) 1 1) [l] := by
  subst hl
  refine ⟨some ⟨g, 0, none⟩, 1, rfl, Nat.le_refl _, (fun h => by cases h), fun ad he j l' hj => ?_⟩
  cases he
  match j, hj with
  | 0, hj =>
    cases hj
    exact ⟨p, c, by rw [Addr.add_lit, Nat.zero_add, cell_of_row w g 0 _ t fr h]; rfl, hr, hc⟩
  | j + 1, hj => simp at hj

theorem Parts.pair {w : World} {g : Nat} {t : TypeId} {fr : Nat × Nat} {p q : Option Addr} {n c n' c' : Nat} {l l' : List UInt8} (h : w.heap[g]? = some (.cells #[.slice p n c, .slice q n' c'] t fr))
    (hr : Reads w (.slice p n c) (B l)) (hl : l.length = n) (hc : c ≤ maxLen) (hr' : Reads w (.slice q n' c') (B l')) (hl' : l'.length = n') (hc' : c' ≤ maxLen) : Parts w (.slice (some ⟨g, 0, none⟩) 2 2) [l, l'] := by
  subst hl
  subst hl'
  refine ⟨some ⟨g, 0, none⟩, 2, rfl, Nat.le_refl _, (fun h => by cases h), fun ad he j m hj => ?_⟩
  cases he
  match j, hj with
  | 0, hj =>
    cases hj
    exact ⟨p, c, by rw [Addr.add_lit, Nat.zero_add, cell_of_row w g 0 _ t fr h]; rfl, hr, hc⟩
  | 1, hj =>
    cases hj
    exact ⟨q, c', by rw [Addr.add_lit, Nat.zero_add, cell_of_row w g 1 _ t fr h]; rfl, hr', hc'⟩
  | j + 2, hj => simp at hj

theorem heap_of_alloc (w : World) (o : Obj) (k : Nat) : (w.alloc o).heap[k]? = if k = w.heap.size then some o else w.heap[k]? := by
  show (w.heap.push o)[k]? = _
  rw [Array.getElem?_push]

section
variable {P : Program}
theorem exec_index {o : Oper} {a : Act} {w : World} {t : TypeId} {x i : Operand} {X I v : Value} (ho : o.op = .index t x i) (hx : a.eval x = X) (hi : a.eval i = I) (hr : (Instr.index t X I).run P w = .ok v w) :
    (execOp a.eval o).run P w = .ok (.value v) w := by
  unfold execOp
  simp only [ho, hx, hi, Sem.run_bind, Sem.run_pure, hr, Result.andThen_ok]

theorem wp_append_has (w : World) {o : Oper} {a : Act} {K : Act → World → Prop} {Q : Exit → Act → World → Prop} (s x : Operand) (t tx : TypeId)
    (ho : o.op = .call { callee := .builtin .append, args := #[s, x], argTypes := #[t, tx] })
    (e : TypeId) (i : TypeInfo) (z : Value) (ht : P.underlying t = some (.slice e)) (hi : P.info? e = some i) (hz : i.zero = some z) (hsize : i.size = 1) (hby : i.bytes = 1) (hzs : z.cells.size = 1)
    (Bd : Nat) (v : Value) (n : Nat) (xs : List Value) (hs : a.eval s = v) (hown : Has w e Bd v n xs) (hBd : Bd ≤ w.heap.size)
    (y : Value) (m : Nat) (news : List Value) (hx : a.eval x = y) (hsrc : Src P 1 tx y m news w) (hm : 0 < m) (hb : n + m ≤ 140737488355328)
    (h : ∀ v' w', Has w' e Bd v' (n + m) (xs ++ news) → Below Bd w w' → K (a.put o.dst v') w') : o.wp P a w K Q := by
  obtain ⟨v', w', hr, hH, hB⟩ := run_append_has (P := P) w t tx o.type e i z ht hi hz hsize hby hzs Bd v n xs hown hBd y m news hsrc hm hb
  unfold Oper.wp execOp
  simp only [ho, resolve, invoke, builtin, Sem.run_bind, Sem.run_pure, Result.andThen_ok, List.map_toArray, List.map_cons, List.map_nil, hs, hx, hr]
  exact h v' w' hH hB
end

section
variable {P : Program}
theorem run_append_any (w : World) (t tx ty e : TypeId) (i : TypeInfo) (z : Value) (ht : P.underlying t = some (.slice e)) (hi : P.info? e = some i) (hz : i.zero = some z)
    (hsize : i.size = 1) (hby : i.bytes = 1) (hzs : z.cells.size = 1)
    (Bd : Nat) (v : Value) (n : Nat) (xs : List Value) (hown : Has w e Bd v n xs) (hBd : Bd ≤ w.heap.size) (x : Value) (m : Nat) (news : List Value) (hs : Src P 1 tx x m news w)
    (hb : n + m ≤ 140737488355328) :
    ∃ v' w', (Builtin.append_ #[t, tx] ty #[v, x]).run P w = .ok v' w' ∧ Has w' e Bd v' (n + m) (xs ++ news) ∧ Below Bd w w' := by
  by_cases hm : 0 < m
  · exact run_append_has w t tx ty e i z ht hi hz hsize hby hzs Bd v n xs hown hBd x m news hs hm hb
  · have hm0 : m = 0 := by omega
    subst hm0
    have hn0 : news = [] := List.eq_nil_of_length_eq_zero (by have := hs.newsLen; omega)
    subst hn0
    rcases hown with ⟨rfl, rfl, rfl⟩ | ⟨g, cap, rfl, h1, h2⟩
    · refine ⟨.slice none 0 0, w, ?_, Has.nil w e Bd, Below.refl _ _⟩
      have hl := hs.len w
      have hc := hs.cells
      unfold Builtin.append_
      rcases hs.kind with ⟨e', hd⟩ | hd <;> simp [run_underlying ht, run_underlying hd, sizeOf, typeInfo, hi, hl, hsize, hc]
    · obtain ⟨g', cap', w', hr, hG⟩ := run_append_src (P := P) w t tx ty e i z ht hi hz hsize hby hzs g cap n xs h2 x 0 [] hs hb
      refine ⟨_, w', hr, .inr ⟨g', cap', rfl, ?_, hG.own⟩, hG.below (Below.refl _ _) h1⟩
      rcases hG.blk with ⟨rfl, _⟩ | hb'
      · exact h1
      · omega

theorem wpList_append_any {w : World} {ops : Array Oper} {rest : List Oper} {o : Oper} {a : Act} {Q : Exit → Act → World → Prop} (hgd : o.guard = none) (s x : Operand) (t tx : TypeId)
    (ho : o.op = .call { callee := .builtin .append, args := #[s, x], argTypes := #[t, tx] })
    (e : TypeId) (i : TypeInfo) (z : Value) (ht : P.underlying t = some (.slice e)) (hi : P.info? e = some i) (hz : i.zero = some z) (hsize : i.size = 1) (hby : i.bytes = 1) (hzs : z.cells.size = 1)
    (Bd : Nat) (v : Value) (n : Nat) (xs : List Value) (hs : a.eval s = v) (hown : Has w e Bd v n xs) (hBd : Bd ≤ w.heap.size)
    (y : Value) (m : Nat) (news : List Value) (hx : a.eval x = y) (hsrc : Src P 1 tx y m news w) (hb : n + m ≤ 140737488355328)
    (h : ∀ v' w', Has w' e Bd v' (n + m) (xs ++ news) → Below Bd w w' → wpList P ops Q rest (a.put o.dst v') w') : wpList P ops Q (o :: rest) a w := by
  refine wpList_plain hgd fun K hK => ?_
  obtain ⟨v', w', hr, hH, hB⟩ := run_append_any (P := P) w t tx o.type e i z ht hi hz hsize hby hzs Bd v n xs hown hBd y m news hsrc hb
  unfold Oper.wp execOp
  simp only [ho, resolve, invoke, builtin, Sem.run_bind, Sem.run_pure, Result.andThen_ok, List.map_toArray, List.map_cons, List.map_nil, hs, hx, hr]
  exact hK _ _ (h v' w' hH hB)
end

theorem reads_drew {w : World} {v : Value} {xs : List Value} (h : Reads w v xs) : Reads w.drew v xs := h.later ((Below.refl _ _).drew)
end Go.Proofs.YtinifnpajkldbaaDoor

/- What the document says of a sign, and the contract of fit: the key as a block. -/
namespace Go.Proofs.YtinifnpajkldbaaDoor
open Go.RowKit
set_option linter.unusedSimpArgs false
set_option linter.unusedVariables false

/-- The key as a block: one of more than 64 bytes by its sum; noughts behind. -/
def fitS (k : List UInt8) : List UInt8 := if 64 < k.length then shaS k ++ List.replicate 32 0 else k ++ List.replicate (64 - k.length) 0
def maskS (m : UInt8) (k : List UInt8) : List UInt8 := k.map fun b => m ^^^ b
/-- HMAC (RFC 2104) by SHA-256. -/
def macS (k t : List UInt8) : List UInt8 := shaS (maskS 92 (fitS k) ++ shaS (maskS 54 (fitS k) ++ t))

theorem fitS_len (k : List UInt8) : (fitS k).length = 64 := by
  unfold fitS
  split
  · rw [List.length_append, shaS_len, List.length_replicate]
  · rw [List.length_append, List.length_replicate]; omega
theorem maskS_len (m : UInt8) (k : List UInt8) : (maskS m k).length = k.length := by rw [maskS, List.length_map]
theorem macS_len (k t : List UInt8) : (macS k t).length = 32 := shaS_len _

theorem zeroBlk : (Tryd.prog.info? 120).bind (fun i => i.zero.map fun z => z.cells.toList) = some (B (List.replicate 64 0)) := by kernel_rfl

/-- A front of a block of noughts is written over. -/
theorem Blk.front {w : World} {t : TypeId} {g n : Nat} (l : List UInt8) (k : Nat) (hk : l.length = k) (hkn : k ≤ n) (h : Blk w t g (B (List.replicate n 0))) : Blk (w.setCells g 0 (B l)) t g (B (l ++ List.replicate (n - k) 0)) := by
  have e : B (List.replicate n 0) = [] ++ B (List.replicate k 0) ++ B (List.replicate (n - k) 0) := by
    rw [List.nil_append, ← B_append, List.replicate_append_replicate, Nat.add_sub_cancel' hkn]
  have := Blk.setCells (t := t) (g := g) (B l) [] (B (List.replicate k 0)) (B (List.replicate (n - k) 0)) (w := w) (o := 0) (by rw [← e]; exact h) (by rw [B_length, B_length, List.length_replicate, hk]) rfl
  rw [List.nil_append, ← B_append] at this
  exact this

set_option maxRecDepth 100000 in
set_option maxHeartbeats 4000000 in
theorem fit_any (key : List UInt8) (ao : Option Addr) (n cap : Nat) (hn : key.length = n) (w : World) (ht : Tabs w) (hr : Reads w (.slice ao n cap) (B key)) (hcap : cap ≤ maxLen) (hb : n ≤ 100000) :
    Calls Tryd.prog 78 #[.slice ao n cap] w fun e w' => e = .returned (.agg (B (fitS key)).toArray) ∧ Below w.heap.size w w' := by
  have HR := hid hr
  have HT := hid ht
  have HN := hid hn
  have HCap := hid hcap
  have h2 := ht.two
  obtain ⟨L, hL⟩ : ∃ L, w.heap.size = L := ⟨_, rfl⟩
  obtain ⟨fs, hfs⟩ : ∃ fs, B (fitS key) = fs := ⟨_, rfl⟩
  rw [hfs]
  have hfl : fs.length = 64 := by rw [← hfs, B_length, fitS_len]
  have ho := hid (show ∀ v ∈ fs, v.oneCell' = true by rw [← hfs]; exact B_one _)
  have hi := hid (show (Tryd.prog.info? 120).map (·.size) = some fs.length by rw [hfl]; kernel_rfl)
  have HF := hid hfs
  have HFL := hid hfl
  clear hr ht hn hcap hfs hfl
  by_cases h64 : (64 : Int) < (n : Int)
  · obtain ⟨bs, hbs⟩ : ∃ bs, B (shaS key) = bs := ⟨_, rfl⟩
    have hbl : bs.length = 32 := by rw [← hbs, B_length, shaS_len]
    have hob := hid (show ∀ v ∈ bs, v.oneCell' = true by rw [← hbs]; exact B_one _)
    have hib := hid (show (Tryd.prog.info? 26).map (·.size) = some bs.length by rw [hbl]; kernel_rfl)
    have HBS := hid hbs
    have HBL := hid hbl
    clear hbs hbl
    go_enter Tryd.func78, Tryd.ntmps78
    go_wp2_with (first
      | (show wpList _ _ _ (⟨some 2, Op.alloc _, _, _, _, _⟩ :: _) _ _; go_must (refine wpList_alloc_blk rfl 120 rfl _ zeroBlk L hL ?_); intro w1 hB1 hb1 hs1; replace hB1 := hid hB1; replace hb1 := hid hb1)
      | (show wpList _ _ _ (⟨some 3, Op.alloc _, _, _, _, _⟩ :: _) _ _; go_must (refine wpList_alloc_blk rfl 120 rfl _ zeroBlk (L + 1) hs1 ?_); intro w2 hB2 hb2 hs2; replace hB2 := hid hB2; replace hb2 := hid hb2))
    have Hb2 := hid (show Below w.heap.size w w2 by rw [hL]; exact hb1.out.trans (hb2.out.mono (by omega)))
    have HB1 := hid (show Blk w2 120 L (B (List.replicate 64 0)) from hB1.out.kept (hb2.out.block L (by omega)))
    have HbA := hid (Hb2.out.alloc Hb2.out.size (.cells #[.slice ao n cap] 22))
    have HRA := hid (show Reads (w2.alloc (.cells #[.slice ao n cap] 22)) (.slice ao n cap) (B key) from HR.out.later HbA.out)
    have HBA1 := hid (HB1.out.alloc (.cells #[.slice ao n cap] 22))
    have HBA2 := hid (hB2.out.alloc (.cells #[.slice ao n cap] 22))
    clear hB1 hb1 hB2 hb2 HB1
    refine (Sum_any _ (HT.out.below HbA.out h2) _ [key] (Parts.one (t := 22) (fr := (0, 0)) (by rw [heap_of_alloc, if_pos hs2.symm]) HRA.out HN.out HCap.out) (by simp) (by simp [HN.out]; omega)).mono ?_
    rintro _ w3 ⟨rfl, hb3⟩
    rw [show [key].flatten = key by simp, HBS.out]
    have Hb3 := hid (below_seq HbA.out hb3)
    have HB31 := hid (HBA1.out.later hb3)
    have HB32 := hid (HBA2.out.later hb3)
    clear hb3 HbA HRA HBA1 HBA2
    obtain ⟨L3, hL3⟩ : ∃ L3, w3.heap.size = L3 := ⟨_, rfl⟩
    have hlt3 : L + 1 < L3 := by rw [← hL3]; exact HB32.out.lt
    go_wp2_with (first
      | (show wpList _ _ _ (⟨some 4, Op.alloc _, _, _, _, _⟩ :: _) _ _; go_must (refine wpList_alloc_blk rfl 26 rfl _ zeroHash L3 hL3 ?_); intro w4 hB4 hb4 hs4; replace hB4 := hid hB4; replace hb4 := hid hb4; have ht4 := hid (hB4.out.there (o := 0) (n := bs.length) (by rw [B_length, List.length_replicate, HBL.out]; omega)))
      | (show wpList _ _ _ (⟨none, Op.store _ _ _, _, _, _, _⟩ :: _) _ _; go_must (refine wpList_store_list rfl 26 _ _ rfl L3 0 bs rfl rfl ht4.out hib.out hob.out ?_); intro w5 hw5; replace hw5 := hid hw5))
    have hB5 : Blk w5 26 L3 bs := by
      rw [hw5.out]
      have := Blk.setCells (t := 26) (g := L3) bs [] (B (List.replicate 32 0)) [] (w := w4) (o := 0) (by rw [List.nil_append, List.append_nil]; exact hB4.out) (by rw [B_length, List.length_replicate, HBL.out]) rfl
      rw [List.nil_append, List.append_nil] at this
      exact this
    have HR5 := hid (show Reads w5.drew (.slice (some ⟨L3, 0, none⟩) 32 32) bs by
      rw [← HBS.out] at hB5 ⊢
      have h := Blk.reads hB5 32 32 (by rw [shaS_len]; omega) (Nat.le_refl _)
      rw [List.take_of_length_le (by rw [shaS_len]; omega)] at h
      exact h.later ((Below.refl _ _).drew))
    have HB51 := hid (show Blk w5 120 L (B (List.replicate 64 0)) by rw [hw5.out]; exact ((HB31.out.kept (hb4.out.block L (by omega)))).kept (setCells_heap (by omega) _ _ _))
    have HB52 := hid (show Blk w5 120 (L + 1) (B (List.replicate 64 0)) by rw [hw5.out]; exact ((HB32.out.kept (hb4.out.block (L + 1) (by omega)))).kept (setCells_heap (by omega) _ _ _))
    have Hb5 := hid (show Below w.heap.size w w5 by rw [hw5.out]; exact below_setCells (by omega) _ _ (Hb3.out.trans (hb4.out.mono (by omega))))
    have hs5 : w5.heap.size = w5.drew.heap.size := rfl
    clear hB4 hb4 hw5 ht4 HB31 HB32 Hb3 hB5
    refine wp_region_held_drew (S := fun w' => True) (by kernel_rfl) (trivial) (fun hHeld => ?_)
    refine wpAnyH_take (i := 0) (v := .slice (some ⟨L + 1, 0, none⟩) 64 64) rfl (by kernel_rfl) (by kernel_rfl) (by kernel_rfl) (fun _ _ _ h => h) (Or.inl ⟨by rfl, by intro w hSw; go_simp⟩) hHeld ?_
    try simp only [Act.put, List.setIfInBounds_toArray, List.set_cons_zero, List.set_cons_succ, List.getElem_toArray, List.getElem_cons_zero, List.getElem_cons_succ]
    refine wpAnyH_take (i := 1) (v := .slice (some ⟨L3, 0, none⟩) 32 32) rfl (by kernel_rfl) (by kernel_rfl) (by kernel_rfl) (fun _ _ _ h => h) (Or.inl ⟨by rfl, by intro w hSw; go_simp⟩) hHeld ?_
    try simp only [Act.put, List.setIfInBounds_toArray, List.set_cons_zero, List.set_cons_succ, List.getElem_toArray, List.getElem_cons_zero, List.getElem_cons_succ]
    refine wpAnyH_ready (rs := [2]) (by kernel_rfl) (by simp) ?_
    refine AllReadyH.cons rfl (fun K hK => ?_) AllReadyH.nil
    refine Eq.mpr (if_pos (by rfl)) ?_
    refine wp_copy_list _ _ 22 22 rfl 5 Tryd.underlying22 Tryd.size1 (L + 1) 0 64 64 rfl _ rfl bs HR5.out 32 (by rw [HBL.out]; rfl) (show w5.there (L + 1) 0 32 from HB52.out.there (by rw [B_length, List.length_replicate]; omega)) hob.out ?_
    refine hK.out _ _ trivial (fun hHeld => ?_)
    clear hK K
    try simp only [Act.put, List.setIfInBounds_toArray, List.set_cons_zero, List.set_cons_succ, List.getElem_toArray, List.getElem_cons_zero, List.getElem_cons_succ]
    refine wpAnyH_done (by kernel_rfl) ?_ _
    have HB6 := hid (show Blk (w5.drew.setCells (L + 1) 0 (bs.take 32)) 120 (L + 1) fs by
      rw [← HF.out, fitS, if_pos (by rw [HN.out]; omega), List.take_of_length_le (by rw [HBL.out]; omega), ← HBS.out]
      exact Blk.front (shaS key) 32 (shaS_len key) (by omega) (show Blk w5.drew 120 (L + 1) (B (List.replicate 64 0)) from HB52.out))
    have HB61 := hid (show Blk (w5.drew.setCells (L + 1) 0 (bs.take 32)) 120 L (B (List.replicate 64 0)) from (show Blk w5.drew 120 L (B (List.replicate 64 0)) from HB51.out).kept (setCells_heap (by omega) _ _ _))
    have Hb6 := hid (show Below w.heap.size w (w5.drew.setCells (L + 1) 0 (bs.take 32)) from below_setCells (by omega) _ _ Hb5.out.drew)
    generalize w5.drew.setCells (L + 1) 0 (bs.take 32) = w6 at *
    have hr6 := hid (show w6.rangeAt (L + 1) 0 fs from HB6.out.range fun j v hv => by rw [Nat.zero_add]; exact hv)
    have ht6 := hid (show w6.there L 0 fs.length from HB61.out.there (by rw [B_length, List.length_replicate, HFL.out]; omega))
    clear HB6 HB61
    go_wp2_with (first
      | (show wpList _ _ _ (⟨some 14, Op.load _ _, _, _, _, _⟩ :: _) _ _; go_must (refine wpList_load_mid rfl 120 _ rfl (L + 1) 0 rfl fs _ hr6.out Tryd.underlying120 rfl hi.out ?_))
      | (show wpList _ _ _ (⟨none, Op.store _ _ _, _, _, _, _⟩ :: _) _ _; go_must (refine wpList_store_list rfl 120 _ _ rfl L 0 fs rfl rfl ht6.out hi.out ho.out ?_); intro w7 hw7; replace hw7 := hid hw7))
    refine ret_cell 2 120 rfl L rfl fs _ ?_ Tryd.underlying120 rfl hi.out rfl ⟨rfl, ?_⟩
    · rw [hw7.out]
      exact World.rangeAt_setCells_same w6 L 0 fs ht6.out
    · rw [hw7.out]
      exact below_setCells (by omega) _ _ Hb6.out
  · have hn64 : n ≤ 64 := by omega
    have HLn := hid (show (B key).length = n by rw [B_length, HN.out])
    go_enter Tryd.func78, Tryd.ntmps78
    go_wp2_with (first
      | (show wpList _ _ _ (⟨some 2, Op.alloc _, _, _, _, _⟩ :: _) _ _; go_must (refine wpList_alloc_blk rfl 120 rfl _ zeroBlk L hL ?_); intro w1 hB1 hb1 hs1; replace hB1 := hid hB1; replace hb1 := hid hb1)
      | (show wpList _ _ _ (⟨some 3, Op.alloc _, _, _, _, _⟩ :: _) _ _; go_must (refine wpList_alloc_blk rfl 120 rfl _ zeroBlk (L + 1) hs1 ?_); intro w2 hB2 hb2 hs2; replace hB2 := hid hB2; replace hb2 := hid hb2; have Hb2 := hid (show Below w.heap.size w w2 by rw [hL]; exact hb1.out.trans (hb2.out.mono (by omega))); have HR2 := hid (HR.out.later Hb2.out); have ht2 := hid (show w2.there (L + 1) 0 n from hB2.out.there (by rw [B_length, List.length_replicate]; omega)))
      | (show wpList _ _ _ (⟨some 17, _, _, _, _, _⟩ :: _) _ _; go_must (refine wpList_copy_list rfl _ _ 22 22 rfl 5 Tryd.underlying22 Tryd.size1 (L + 1) 0 64 64 rfl _ rfl (B key) HR2.out n (by rw [HLn.out]; exact (Nat.min_eq_left hn64).symm) ht2.out (B_one key) ?_); intro w6 hw6; replace hw6 := hid hw6; have HB6 := hid (show Blk w6 120 (L + 1) fs by (rw [hw6.out, List.take_of_length_le (by rw [HLn.out]; exact Nat.le_refl _), ← HF.out, fitS, if_neg (by rw [HN.out]; omega), HN.out]; exact Blk.front key n HN.out hn64 hB2.out)); have HB61 := hid (show Blk w6 120 L (B (List.replicate 64 0)) by (rw [hw6.out]; exact (hB1.out.kept (hb2.out.block L (by omega))).kept (setCells_heap (by omega) _ _ _))); have Hb6 := hid (show Below w.heap.size w w6 by (rw [hw6.out]; exact below_setCells (by omega) _ _ Hb2.out)); have hr6 := hid (show w6.rangeAt (L + 1) 0 fs from HB6.out.range fun j v hv => (by rw [Nat.zero_add]; exact hv)); have ht6 := hid (show w6.there L 0 fs.length from HB61.out.there (by rw [B_length, List.length_replicate, HFL.out]; omega)); clear hB2 hB1 hb1 hb2 HR2 ht2 hw6)
      | (show wpList _ _ _ (⟨some 18, Op.load _ _, _, _, _, _⟩ :: _) _ _; go_must (refine wpList_load_mid rfl 120 _ rfl (L + 1) 0 rfl fs _ hr6.out Tryd.underlying120 rfl hi.out ?_))
      | (show wpList _ _ _ (⟨none, Op.store _ _ _, _, _, _, _⟩ :: _) _ _; go_must (refine wpList_store_list rfl 120 _ _ rfl L 0 fs rfl rfl ht6.out hi.out ho.out ?_); intro w7 hw7; replace hw7 := hid hw7))
    refine ret_cell 2 120 rfl L rfl fs _ ?_ Tryd.underlying120 rfl hi.out rfl ⟨rfl, ?_⟩
    · rw [hw7.out]
      exact World.rangeAt_setCells_same w6 L 0 fs ht6.out
    · rw [hw7.out]
      have h := Hb6.out
      rw [hL] at h
      exact below_setCells (by omega) _ _ h
end Go.Proofs.YtinifnpajkldbaaDoor

/- The contract of masked: a mask laid over each byte of a block. -/
namespace Go.Proofs.YtinifnpajkldbaaDoor
open Go.RowKit
set_option linter.unusedSimpArgs false
set_option linter.unusedVariables false

theorem bxor (x y : UInt8) : bits .xor .u8 (x.toNat : Int) (y.toNat : Int) = ((x ^^^ y).toNat : Int) := by
  rw [u8_xor_nat _ _ x.toNat_lt y.toNat_lt, UInt8.toNat_xor]

theorem wpList_build_none {P : Program} {ops : Array Oper} {rest : List Oper} {o : Oper} {a : Act} {w : World} {Q : Exit → Act → World → Prop} (hg : o.guard = none) (t : TypeId) (ho : o.op = .build t #[])
    (cells : Array Value) (hf : P.built t [] = some cells)
    (h : wpList P ops Q rest (a.put o.dst (.agg cells)) w) : wpList P ops Q (o :: rest) a w :=
  wpList_buildTo hg t _ ho _ rfl cells (by simpa using hf) h

theorem builtBlk : Tryd.prog.built 120 [] = some (B (List.replicate 64 0)).toArray := by kernel_rfl

theorem eqBlk (l l' : List UInt8) (hl : l.length = 64) (hl' : l'.length = 64) (w : World) : (Op.equalIn 10000 120 (.agg (B l).toArray) (.agg (B l').toArray)).run Tryd.prog w = .ok (l == l') w :=
  run_equalIn_bytes (P := Tryd.prog) w 9998 120 5 64 Tryd.underlying120 Tryd.underlying5 Tryd.sizeByte l l' hl hl'

/-- As far as j the mask is laid. -/
def laidM (m : UInt8) (j : Nat) : List UInt8 := List.replicate j m ++ List.replicate (64 - j) 0
theorem laidM_len (m : UInt8) (j : Nat) (h : j ≤ 64) : (laidM m j).length = 64 := by simp [laidM]; omega
theorem laidM_set (m : UInt8) (j : Nat) (h : j < 64) : (laidM m j).set j m = laidM m (j + 1) := by
  unfold laidM
  rw [List.set_append_right _ _ (by simp), List.length_replicate, Nat.sub_self, show 64 - j = (64 - (j + 1)) + 1 by omega, List.replicate_succ, List.set_cons_zero, List.replicate_succ', List.append_assoc]
  rfl
/-- As far as j the bytes are masked. -/
def laidK (m : UInt8) (l : List UInt8) (j : Nat) : List UInt8 := maskS m (l.take j) ++ List.replicate (64 - j) m
theorem laidK_len (m : UInt8) (l : List UInt8) (hl : l.length = 64) (j : Nat) (h : j ≤ 64) : (laidK m l j).length = 64 := by simp [laidK, maskS_len, hl]; omega
theorem laidK_get (m : UInt8) (l : List UInt8) (hl : l.length = 64) (j : Nat) (h : j < 64) : (laidK m l j).getD j 0 = m := by
  unfold laidK
  have hk : (maskS m (l.take j)).length = j := by rw [maskS_len, List.length_take]; omega
  rw [List.getD_eq_getElem?_getD, List.getElem?_append_right (by omega), hk, Nat.sub_self, show 64 - j = (64 - (j + 1)) + 1 by omega, List.replicate_succ]
  rfl
theorem laidK_set (m : UInt8) (l : List UInt8) (hl : l.length = 64) (j : Nat) (h : j < 64) : (laidK m l j).set j (m ^^^ l.getD j 0) = laidK m l (j + 1) := by
  unfold laidK
  have hk : (maskS m (l.take j)).length = j := by rw [maskS_len, List.length_take]; omega
  have e : l.getD j 0 = l[j]'(by omega) := by rw [List.getD_eq_getElem?_getD, List.getElem?_eq_getElem (by omega)]; rfl
  rw [List.set_append_right _ _ (by omega), hk, Nat.sub_self, show 64 - j = (64 - (j + 1)) + 1 by omega, List.replicate_succ, List.set_cons_zero, List.take_succ_eq_append_getElem (by omega), e]
  simp only [maskS, List.map_append, List.map_cons, List.map_nil, List.append_assoc]
  rfl
theorem B_set (l : List UInt8) (j : Nat) (b : UInt8) : (B l).set j (.int .u8 b.toNat) = B (l.set j b) := by simp [B, List.map_set]
theorem mask_zero (m : UInt8) (n : Nat) : maskS m (List.replicate n 0) = List.replicate n m := by simp [maskS]

set_option maxRecDepth 100000 in
set_option maxHeartbeats 4000000 in
theorem masked_any (l : List UInt8) (hl : l.length = 64) (m : UInt8) (mi : Int) (hm : mi = (m.toNat : Int)) (w : World) :
    Calls Tryd.prog 79 #[.agg (B l).toArray, .int .u8 mi] w fun e w' => e = .returned (.agg (B (maskS m l)).toArray) ∧ Below w.heap.size w w' := by
  subst hm
  obtain ⟨ms, hms⟩ : ∃ ms, B (maskS m l) = ms := ⟨_, rfl⟩
  rw [hms]
  have hml : ms.length = 64 := by rw [← hms, B_length, maskS_len, hl]
  have ho := hid (show ∀ v ∈ ms, v.oneCell' = true by rw [← hms]; exact B_one _)
  have hi := hid (show (Tryd.prog.info? 120).map (·.size) = some ms.length by rw [hml]; kernel_rfl)
  obtain ⟨bs, hbs⟩ : ∃ bs, B l = bs := ⟨_, rfl⟩
  rw [hbs]
  have hbl : bs.length = 64 := by rw [← hbs, B_length, hl]
  have hib := hid (show (Tryd.prog.info? 120).map (·.size) = some bs.length by rw [hbl]; kernel_rfl)
  obtain ⟨zs, hzs⟩ : ∃ zs, B (List.replicate 64 0) = zs := ⟨_, rfl⟩
  have HZ := hid (show Tryd.prog.built 120 [] = some zs.toArray by rw [← hzs]; exact builtBlk)
  have hE := eqBlk l (List.replicate 64 0) hl (by simp)
  rw [hbs, hzs] at hE
  have HE := hid hE
  obtain ⟨L, hL⟩ : ∃ L, w.heap.size = L := ⟨_, rfl⟩
  have HMS := hid hms
  have HML := hid hml
  have HBS := hid hbs
  have HBL := hid hbl
  have HLl := hid hl
  have HZS := hid hzs
  have hmb : (m.toNat : Int) < 256 := by have := m.toNat_lt; omega
  clear hms hml hbs hbl hl hzs hE
  go_enter Tryd.func79, Tryd.ntmps79
  go_wp2_with (first
    | (show wpList _ _ _ (⟨some 2, Op.box _ _, _, _, _, _⟩ :: _) _ _; go_must (refine wpList_box_blk rfl 120 _ rfl bs rfl L hL ?_); intro w1 hB1 hb1 hs1; replace hB1 := hid hB1; replace hb1 := hid hb1)
    | (show wpList _ _ _ (⟨some 4, Op.alloc _, _, _, _, _⟩ :: _) _ _; go_must (refine wpList_alloc_blk rfl 120 rfl _ zeroBlk (L + 1) hs1 ?_); intro w2 hB2 hb2 hs2; replace hB2 := hid hB2; replace hb2 := hid hb2)
    | (show wpList _ _ _ (⟨some 5, Op.alloc _, _, _, _, _⟩ :: _) _ _; go_must (refine wpList_alloc_blk rfl 120 rfl _ zeroBlk (L + 1 + 1) hs2 ?_); intro w3 hB3 hb3 hs3; replace hB3 := hid hB3; replace hb3 := hid hb3))
  have HK3 := hid (show Blk w3 120 L bs from (hB1.out.kept (hb2.out.block L (by omega))).kept (hb3.out.block L (by omega)))
  have HR3 := hid (show Blk w3 120 (L + 1) (B (List.replicate 64 0)) from hB2.out.kept (hb3.out.block (L + 1) (by omega)))
  have Hb3 := hid (show Below L w w3 from (hb1.out.trans (hb2.out.mono (by omega))).trans (hb3.out.mono (by omega)))
  have HO3 := hid (show Blk w3 120 (L + 1 + 1) (B (laidM m 0)) from hB3.out)
  clear hB1 hb1 hs1 hB2 hb2 hs2 hB3 hb3 hs3
  go_loopw [6, 9] (fun x i wr => ∃ j : Nat, j ≤ 64 ∧ i = .int .i64 j ∧ Blk wr 120 (L + 1 + 1) (B (laidM m j)) ∧ Blk wr 120 L bs ∧ Blk wr 120 (L + 1) (B (List.replicate 64 0)) ∧ Below L w wr) (fun _ i _ => 64 - (intOf i).toNat)
  case atStart => exact ⟨0, Nat.zero_le _, rfl, HO3.out, HK3.out, HR3.out, Hb3.out⟩
  case round =>
    obtain ⟨j, hj, rfl, hO, hK, hR, hb⟩ := hrel
    have HO := hid hO
    have HK := hid hK
    have HR := hid hR
    have Hb := hid hb
    by_cases hlt : j < 64
    · have hlt' : (j : Int) < 64 := by omega
      have hc := hO.cell (B_getD (laidM m j) j (by rw [laidM_len m j hj]; exact hlt))
      have hf := hO.frozen j
      clear hO hK hR hb
      go_wp2_with fail
      go_roundw
      case rel => exact ⟨j + 1, by omega, by go_num, by rw [← laidM_set m j hlt, ← B_set]; exact HO.out.setCell j _, HK.out.kept (heap_setCell_other _ _ _ _ (show L ≠ L + 1 + 1 by omega)), HR.out.kept (heap_setCell_other _ _ _ _ (show L + 1 ≠ L + 1 + 1 by omega)), Hb.out.setCell (show L ≤ L + 1 + 1 by omega) _⟩
      case measure => simp [intOf]; omega
    · have hj64 : j = 64 := by omega
      subst hj64
      have hr := hid (show wr.rangeAt L 0 bs from hK.range fun j v hv => by rw [Nat.zero_add]; exact hv)
      have hE := HE.out
      have hM : laidM m 64 = laidK m l 0 := by simp [laidM, laidK, maskS]
      rw [hM] at HO hO
      clear hO hK hR hb hM
      by_cases hz : l = List.replicate 64 0
      · have hzE : (l == List.replicate 64 0) = true := by rw [hz]; simp
        rw [hzE] at hE
        have hBO : Blk wr 120 (L + 1 + 1) ms := by
          rw [← HMS.out, hz, mask_zero]
          have h := HO.out
          rw [laidK] at h
          exact h
        have hro := hid (show wr.rangeAt (L + 1 + 1) 0 ms from hBO.range fun j v hv => by rw [Nat.zero_add]; exact hv)
        have hto := hid (show wr.there (L + 1) 0 ms.length from HR.out.there (by rw [B_length, List.length_replicate, HML.out]; omega))
        clear hBO hz hzE
        go_wp2_with (first
          | (show wpList _ _ _ (⟨some 16, Op.load _ _, _, _, _, _⟩ :: _) _ _; go_must (refine wpList_load_mid rfl 120 _ rfl L 0 rfl bs _ hr.out Tryd.underlying120 rfl hib.out ?_))
          | (show wpList _ _ _ (⟨some 17, Op.build _ _, _, _, _, _⟩ :: _) _ _; go_must (refine wpList_build_none rfl 120 rfl zs.toArray HZ.out ?_))
          | (show wpList _ _ _ (⟨some 19, Op.load _ _, _, _, _, _⟩ :: _) _ _; go_must (refine wpList_load_mid rfl 120 _ rfl (L + 1 + 1) 0 rfl ms _ hro.out Tryd.underlying120 rfl hi.out ?_))
          | (show wpList _ _ _ (⟨none, Op.store _ _ _, _, _, _, _⟩ :: _) _ _; go_must (refine wpList_store_list rfl 120 _ _ rfl (L + 1) 0 ms rfl rfl hto.out hi.out ho.out ?_); intro w7 hw7; replace hw7 := hid hw7))
        refine ret_cell 4 120 rfl (L + 1) rfl ms _ ?_ Tryd.underlying120 rfl hi.out rfl ⟨rfl, ?_⟩
        · rw [hw7.out]
          exact World.rangeAt_setCells_same wr (L + 1) 0 ms hto.out
        · rw [hw7.out, hL]
          exact below_setCells (by omega) _ _ Hb.out
      · have hzE : (l == List.replicate 64 0) = false := by simpa using hz
        rw [hzE] at hE
        clear hz hzE
        go_wp2_with (first
          | (show wpList _ _ _ (⟨some 16, Op.load _ _, _, _, _, _⟩ :: _) _ _; go_must (refine wpList_load_mid rfl 120 _ rfl L 0 rfl bs _ hr.out Tryd.underlying120 rfl hib.out ?_))
          | (show wpList _ _ _ (⟨some 17, Op.build _ _, _, _, _, _⟩ :: _) _ _; go_must (refine wpList_build_none rfl 120 rfl zs.toArray HZ.out ?_))
          | (show wpList _ _ _ (⟨some 20, Op.load _ _, _, _, _, _⟩ :: _) _ _; go_must (refine wpList_load_mid rfl 120 _ rfl L 0 rfl bs _ hr.out Tryd.underlying120 rfl hib.out ?_)))
        clear hE hr
        go_loopw [7, 8, 21] (fun x y i wr => ∃ j : Nat, j ≤ 64 ∧ i = .int .i64 j ∧ Blk wr 120 (L + 1 + 1) (B (laidK m l j)) ∧ Blk wr 120 (L + 1) (B (List.replicate 64 0)) ∧ Below L w wr) (fun _ _ i _ => 64 - (intOf i).toNat)
        case atStart => exact ⟨0, Nat.zero_le _, rfl, HO.out, HR.out, Hb.out⟩
        case round =>
          obtain ⟨j, hj, rfl, hO, hR, hb⟩ := hrel
          have HO := hid hO
          have HR := hid hR
          have Hb := hid hb
          by_cases hlt : j < 64
          · have hlt' : (j : Int) < 64 := by omega
            obtain ⟨b, hb0⟩ : ∃ b, l.getD j 0 = b := ⟨_, rfl⟩
            have hix := hid (show bs.toArray[j]? = some (.int .u8 b.toNat) by rw [List.getElem?_toArray, ← HBS.out, ← hb0]; exact B_getD l j (by rw [HLl.out]; exact hlt))
            have hc := hO.cell (B_getD (laidK m l j) j (by rw [laidK_len m l HLl.out j hj]; exact hlt))
            rw [laidK_get m l HLl.out j hlt] at hc
            have hf := hO.frozen j
            have HST := hid (show (laidK m l j).set j (m ^^^ b) = laidK m l (j + 1) by rw [← hb0]; exact laidK_set m l HLl.out j hlt)
            have hx := bxor m b
            clear hO hR hb hb0
            go_wp2_with (show wpList _ _ _ (⟨_, Op.index _ _ _, _, _, _, _⟩ :: _) _ _; go_must (refine wpList_index_agg rfl 120 _ _ rfl 5 64 .u8 Tryd.underlying120 Tryd.underlying5 Tryd.size1 _ .i64 j rfl rfl hlt (.int .u8 b.toNat) hix.out ?_))
            go_roundw
            case rel => exact ⟨j + 1, by omega, by go_num, by rw [← HST.out, ← B_set]; exact HO.out.setCell j _, HR.out.kept (heap_setCell_other _ _ _ _ (show L + 1 ≠ L + 1 + 1 by omega)), Hb.out.setCell (show L ≤ L + 1 + 1 by omega) _⟩
            case measure => simp [intOf]; omega
          · have hj64 : j = 64 := by omega
            subst hj64
            have hBO : Blk wr 120 (L + 1 + 1) ms := by
              have h := hO
              rw [laidK, List.take_of_length_le (by rw [HLl.out]; omega), Nat.sub_self, List.replicate_zero, List.append_nil, HMS.out] at h
              exact h
            have hro := hid (show wr.rangeAt (L + 1 + 1) 0 ms from hBO.range fun j v hv => by rw [Nat.zero_add]; exact hv)
            have hto := hid (show wr.there (L + 1) 0 ms.length from HR.out.there (by rw [B_length, List.length_replicate, HML.out]; omega))
            clear hO hR hb hBO
            go_wp2_with (first
              | (show wpList _ _ _ (⟨some 32, Op.load _ _, _, _, _, _⟩ :: _) _ _; go_must (refine wpList_load_mid rfl 120 _ rfl (L + 1 + 1) 0 rfl ms _ hro.out Tryd.underlying120 rfl hi.out ?_))
              | (show wpList _ _ _ (⟨none, Op.store _ _ _, _, _, _, _⟩ :: _) _ _; go_must (refine wpList_store_list rfl 120 _ _ rfl (L + 1) 0 ms rfl rfl hto.out hi.out ho.out ?_); intro w7 hw7; replace hw7 := hid hw7))
            refine ret_cell 4 120 rfl (L + 1) rfl ms _ ?_ Tryd.underlying120 rfl hi.out rfl ⟨rfl, ?_⟩
            · rw [hw7.out]
              exact World.rangeAt_setCells_same wr (L + 1) 0 ms hto.out
            · rw [hw7.out, hL]
              exact below_setCells (by omega) _ _ Hb.out
end Go.Proofs.YtinifnpajkldbaaDoor
