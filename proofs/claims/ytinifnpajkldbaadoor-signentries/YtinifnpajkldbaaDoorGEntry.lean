/- The contract of the second say's Entry (chapter 9). -/
import Derived.Test.YtinifnpajkldbaaDoorQ9b46
import Derived.Test.YtinifnpajkldbaaDoorPk26
import Derived.Deep.RegionHeld3
namespace Go.Proofs.YtinifnpajkldbaaDoor
open Go.RowKit
set_option linter.unusedSimpArgs false
set_option linter.unusedVariables false

/-- What three rows of one's own hold: a row of bytes, the operations, an entry; each there or not yet. -/
structure It3 (w : World) (b c e : Option (Nat × Obj)) : Prop where
  hb : ∀ x ∈ b, w.heap[x.1]? = some x.2
  hc : ∀ x ∈ c, w.heap[x.1]? = some x.2
  he : ∀ x ∈ e, w.heap[x.1]? = some x.2
  bc : ∀ x ∈ b, ∀ y ∈ c, x.1 ≠ y.1
  beo : ∀ x ∈ b, ∀ y ∈ e, x.1 ≠ y.1
  ceo : ∀ x ∈ c, ∀ y ∈ e, x.1 ≠ y.1
theorem lt_of_heap {w : World} {g : Nat} {o : Obj} (h : w.heap[g]? = some o) : g < w.heap.size := (Array.getElem?_eq_some_iff.1 h).1
section
variable {w w' : World} {b c e : Option (Nat × Obj)} {g : Nat} {ob ob' : Obj}
theorem It3.none (w : World) : It3 w none none none := ⟨by simp, by simp, by simp, by simp, by simp, by simp⟩
theorem It3.rb (h : It3 w (some (g, ob)) c e) : w.heap[g]? = some ob := h.hb _ rfl
theorem It3.rc (h : It3 w b c e) : ∀ x ∈ c, w.heap[x.1]? = some x.2 := h.hc
theorem It3.re (h : It3 w b c (some (g, ob))) : w.heap[g]? = some ob := h.he _ rfl
theorem It3.be {g2 : Nat} {ob2 : Obj} (h : It3 w (some (g, ob)) c (some (g2, ob2))) : g ≠ g2 := h.beo _ rfl _ rfl
theorem It3.new0 (h : It3 w Option.none c e) (kp : ∀ k, k < w.heap.size → w'.heap[k]? = w.heap[k]?) (hg : w'.heap[g]? = some ob) (hs : w.heap.size ≤ g) : It3 w' (some (g, ob)) c e :=
  ⟨fun x hx => by cases hx; exact hg, fun x hx => (kp _ (lt_of_heap (h.hc x hx))).trans (h.hc x hx), fun x hx => (kp _ (lt_of_heap (h.he x hx))).trans (h.he x hx),
    fun x hx y hy => by cases hx; have := lt_of_heap (h.hc y hy); show g ≠ y.1; omega, fun x hx y hy => by cases hx; have := lt_of_heap (h.he y hy); show g ≠ y.1; omega, h.ceo⟩
theorem It3.new8 (h : It3 w b Option.none e) (kp : ∀ k, k < w.heap.size → w'.heap[k]? = w.heap[k]?) (hg : w'.heap[g]? = some ob) (hs : w.heap.size ≤ g) : It3 w' b (some (g, ob)) e :=
  ⟨fun x hx => (kp _ (lt_of_heap (h.hb x hx))).trans (h.hb x hx), fun x hx => by cases hx; exact hg, fun x hx => (kp _ (lt_of_heap (h.he x hx))).trans (h.he x hx),
    fun x hx y hy => by cases hy; have := lt_of_heap (h.hb x hx); show x.1 ≠ g; omega, h.beo, fun x hx y hy => by cases hx; have := lt_of_heap (h.he y hy); show g ≠ y.1; omega⟩
theorem It3.new12 (h : It3 w b c Option.none) (kp : ∀ k, k < w.heap.size → w'.heap[k]? = w.heap[k]?) (hg : w'.heap[g]? = some ob) (hs : w.heap.size ≤ g) : It3 w' b c (some (g, ob)) :=
  ⟨fun x hx => (kp _ (lt_of_heap (h.hb x hx))).trans (h.hb x hx), fun x hx => (kp _ (lt_of_heap (h.hc x hx))).trans (h.hc x hx), fun x hx => by cases hx; exact hg,
    h.bc, fun x hx y hy => by cases hy; have := lt_of_heap (h.hb x hx); show x.1 ≠ g; omega, fun x hx y hy => by cases hy; have := lt_of_heap (h.hc x hx); show x.1 ≠ g; omega⟩
theorem It3.set0 {g' : Nat} (h : It3 w (some (g, ob)) c e) (kp : ∀ k, k < w.heap.size → g ≠ k → w'.heap[k]? = w.heap[k]?) (hn : g' = g ∨ w.heap.size ≤ g') (hg : w'.heap[g']? = some ob') : It3 w' (some (g', ob')) c e :=
  ⟨fun x hx => by cases hx; exact hg, fun x hx => (kp _ (lt_of_heap (h.hc x hx)) (h.bc _ rfl x hx)).trans (h.hc x hx), fun x hx => (kp _ (lt_of_heap (h.he x hx)) (h.beo _ rfl x hx)).trans (h.he x hx),
    fun x hx y hy => by cases hx; have := lt_of_heap (h.hc y hy); have h2 : g ≠ y.1 := h.bc _ rfl y hy; show g' ≠ y.1; omega, fun x hx y hy => by cases hx; have := lt_of_heap (h.he y hy); have h2 : g ≠ y.1 := h.beo _ rfl y hy; show g' ≠ y.1; omega, h.ceo⟩
theorem It3.set8 {c' : Option (Nat × Obj)} (h : It3 w b (some (g, ob)) e) (kp : ∀ k, k < w.heap.size → k ≠ g → w'.heap[k]? = w.heap[k]?) (hn : ∀ x ∈ c', x.1 = g ∨ w.heap.size ≤ x.1) (hg : ∀ x ∈ c', w'.heap[x.1]? = some x.2) : It3 w' b c' e :=
  ⟨fun x hx => (kp _ (lt_of_heap (h.hb x hx)) (h.bc x hx _ rfl)).trans (h.hb x hx), hg, fun x hx => (kp _ (lt_of_heap (h.he x hx)) (Ne.symm (h.ceo _ rfl x hx))).trans (h.he x hx),
    fun x hx y hy => by have h1 := lt_of_heap (h.hb x hx); have h2 : x.1 ≠ g := h.bc x hx _ rfl; have h3 := hn y hy; omega, h.beo,
    fun x hx y hy => by have h1 := lt_of_heap (h.he y hy); have h2 : g ≠ y.1 := h.ceo _ rfl y hy; have h3 := hn x hx; omega⟩
theorem It3.set12 (h : It3 w b c (some (g, ob))) (kp : ∀ k, k < w.heap.size → k ≠ g → w'.heap[k]? = w.heap[k]?) (hg : w'.heap[g]? = some ob') : It3 w' b c (some (g, ob')) :=
  ⟨fun x hx => (kp _ (lt_of_heap (h.hb x hx)) (h.beo x hx _ rfl)).trans (h.hb x hx), fun x hx => (kp _ (lt_of_heap (h.hc x hx)) (h.ceo x hx _ rfl)).trans (h.hc x hx), fun x hx => by cases hx; exact hg,
    h.bc, fun x hx y hy => by cases hy; exact h.beo x hx (g, ob) rfl, fun x hx y hy => by cases hy; exact h.ceo x hx (g, ob) rfl⟩
theorem Owns.obj9 {t : TypeId} {cap n : Nat} {xs : List Value} (h : Owns w t g cap n xs) : ∃ ob, w.heap[g]? = some ob ∧ ∀ w' : World, w'.heap[g]? = some ob → Owns w' t g cap n xs := by
  obtain ⟨h1, h2, h3, cur, hg, h4⟩ := h
  exact ⟨_, hg, fun w' hw => ⟨h1, h2, h3, cur, hw, h4⟩⟩
theorem HasC.opt9 {Bd : Nat} {v : Value} {o : List Cp} (h : HasC w Bd v o) : ∃ c : Option (Nat × Obj), (∀ x ∈ c, w.heap[x.1]? = some x.2 ∧ blkOf v = some x.1) ∧ (∀ k, blkOf v = some k → ∃ ob, c = some (k, ob)) ∧ ∀ w' : World, (∀ x ∈ c, w'.heap[x.1]? = some x.2) → HasC w' Bd v o := by
  rcases h with ⟨rfl, h1, h2⟩ | ⟨g, cap, cur, rfl, h1, h2, h3, h4, h5, h6⟩
  · exact ⟨none, by simp, (fun k hk => by cases hk), fun w' _ => .inl ⟨rfl, h1, h2⟩⟩
  · exact ⟨some (g, _), fun x hx => by cases hx; exact ⟨h4, rfl⟩, (fun k hk => by cases hk; exact ⟨_, rfl⟩), fun w' hw => .inr ⟨g, cap, cur, rfl, h1, h2, h3, hw _ rfl, h5, h6⟩⟩
theorem empty9 {Bd : Nat} (h : w.heap[g]? = some (Obj.cells #[] 62)) (hB : Bd ≤ g) : HasC w Bd (.slice (some ⟨g, 0, none⟩) 0 0) [] :=
  .inr ⟨g, 0, #[], rfl, hB, rfl, Nat.le_refl _, h, rfl, rfl⟩
end
theorem wp_append_c9 {w : World} {op : Oper} {a : Act} {K : Act → World → Prop} {Q : Exit → Act → World → Prop} (s x : Operand)
    (ho : op.op = .call { callee := .builtin .append, args := #[s, x], argTypes := #[28, 28] })
    (Bd : Nat) (v : Value) (o : List Cp) (hs : a.eval s = v) (hown : HasC w Bd v o) (hBd : Bd ≤ w.heap.size)
    (y : Value) (p : List Cp) (hx : a.eval x = y) (hsrc : RC w y p) (hb : o.length + p.length ≤ 4398046511104)
    (h : ∀ v' w', HasC w' Bd v' (o ++ p) → Below Bd w w' → (∀ k, k < w.heap.size → blkOf v ≠ some k → w'.heap[k]? = w.heap[k]?) → (∀ k, blkOf v' = some k → blkOf v = some k ∨ w.heap.size ≤ k) → K (a.put op.dst v') w') : op.wp Tryd.prog a w K Q := by
  obtain ⟨i, z, hi, hz, hsz, hzs, hby⟩ := info_comp
  obtain ⟨v', w', hr, hH, hB, hKp, hKq⟩ := run_append_k (P := Tryd.prog) 3 32 w 28 28 op.type 62 i z Tryd.underlying28 hi hz hsz hzs hby Bd v _ _ hown hBd y _ _ hsrc.src (by omega) (by omega)
  unfold Oper.wp execOp
  simp only [ho, resolve, invoke, builtin, Sem.run_bind, Sem.run_pure, Result.andThen_ok, List.map_toArray, List.map_cons, List.map_nil, hs, hx, hr]
  refine h v' w' ?_ hB hKp hKq
  unfold HasC
  rw [List.length_append, C_append]
  exact hH

/-- The entry, as its first row lays it. -/
def EntryAt (L : Nat) (w : World) (bs : List (TypeId × Nat × List Value)) (at_ : Int) (m : List UInt8) (o : List Cp) (body : List UInt8) (n : Nat) (s : Value) (w' : World) : Prop :=
  ∃ E g c v10, s = .pointer (some ⟨E, 0, none⟩) ∧ HB L (L + 4) w bs (L + 3) 56 99 w' ∧ EnW w' 56 E ⟨m, at_, List.replicate 32 0, List.replicate 32 0⟩ (.slice (some ⟨g, 0, none⟩) n c) v10 ∧ Owns w' 5 g c n (B body) ∧ HasC w' (L + 4) v10 o ∧ L + 4 ≤ E ∧ L + 4 ≤ g ∧ g ≠ E ∧ ∀ k, blkOf v10 = some k → k ≠ E
set_option maxRecDepth 100000 in
set_option maxHeartbeats 16000000 in
theorem gEntry_any (ks : List Value) (KY : Nat → List UInt8) (j : Nat) (hj : j < 3) (ph : List UInt8) (hph : ph.length = 32) (m : List UInt8) (hm : m.length = 32) (ao : Option Addr) (n cap : Nat) (body : List UInt8) (hn : body.length = n) (hn2 : n ≤ 400) (at_ : Int) (ov : Value) (o : List Cp) (w : World)
    (hk : KW w ks KY) (hb : Reads w (.slice ao n cap) (B body)) (hv : RC w ov o) (hf : FewS o) :
    Calls Tryd.prog 24 #[.agg ks.toArray, .int .i64 (j : Int), .agg (B ph).toArray, .agg (sgC (.slice ao n cap) m).toArray, .int .i64 at_, ov] w fun x w' => ∃ g c v', x = .returned (.agg ((madeE (KY j) ph m at_ body o).cells (.slice (some ⟨g, 0, none⟩) n c) v').toArray) ∧ w.heap.size ≤ g ∧ Owns w' 5 g c n (B body) ∧ HasC w' w.heap.size v' o ∧ Below w.heap.size w w' := by
  obtain ⟨i0, hi, hz0, hz1, hz2⟩ := info_parts Tryd.infoByte
  obtain ⟨cs, hcs⟩ : ∃ cs, sgC (.slice ao n cap) m = cs := ⟨_, rfl⟩
  obtain ⟨L, hL⟩ : ∃ L, w.heap.size = L := ⟨_, rfl⟩
  have HRD := hid hb
  have HN := hid hn
  have HV := hid hv
  have HF := hid hf
  have HM := hid hm
  have HOK := hid (show (⟨m, at_, List.replicate 32 0, List.replicate 32 0⟩ : En).Ok from ⟨hm, by simp, by simp⟩)
  have HIH := hid (show (Tryd.prog.info? 26).map (·.size) = some 32 by kernel_rfl)
  have HIE := hid (show (Tryd.prog.info? 56).map (·.size) = some 99 by kernel_rfl)
  obtain ⟨zs, hzs⟩ : ∃ zs, En.zero.cells (.slice none 0 0) (.slice none 0 0) = zs := ⟨_, rfl⟩
  have HZ := hid (show (Tryd.prog.info? 56).bind (fun i => i.zero.map fun z => z.cells.toList) = some zs by rw [← hzs]; kernel_rfl)
  have HZL := hid (show zs.length = 99 by rw [← hzs]; exact En.len En.zero_ok)
  obtain ⟨ms, hms⟩ : ∃ ms, B m = ms := ⟨_, rfl⟩
  have HMS := hid hms
  have HML := hid (show ms.length = 32 by rw [← hms, B_length, hm])
  have HMW := hid (show ∀ wx, Blk wx 40 (L + 2) cs → wx.rangeAt (L + 2) 1 ms from fun wx h => by rw [← hms]; exact h.range fun j v hv => by rw [← hcs]; exact sgC_mac hv)
  have HBW := hid (show ∀ wx, Blk wx 40 (L + 2) cs → wx.cell? ⟨L + 2, 0, none⟩ = some (.slice ao n cap) from fun wx h => h.cell (by rw [← hcs]; rfl))
  obtain ⟨ps, hps⟩ : ∃ ps, B ph = ps := ⟨_, rfl⟩
  have HPS := hid hps
  have HPH := hid hph
  have HPL := hid (show ps.length = 32 by rw [← hps, B_length, hph])
  obtain ⟨ka, kn, kc, k1, k2, k3, k4, k5⟩ := hk.get j hj
  have HKJ := hid k1
  have HKN := hid k2
  have HK2 := hid k3
  have HKR := hid k5
  have hj3' : (j : Int) < 3 := by omega
  have hbl : body.length ≤ 400 := by omega
  have HBL := hid hbl
  rw [hcs, hps]
  clear hcs hb hn hk hzs hms hps hm hph hv hf k1 k2 k3 k4 k5 hbl
  go_enter Tryd.func24, Tryd.ntmps24
  go_upto_region 1 with (first
    | (show wpList _ _ _ (⟨some 6, Op.box _ _, _, _, _, _⟩ :: _) _ _; go_must (refine wpList_box_blk rfl 35 _ rfl ks rfl L hL ?_); intro w1 hB1 hb1 hs1; have HB1 := hid hB1; have Hb1 := hid hb1; clear hB1 hb1)
    | (show wpList _ _ _ (⟨some 8, Op.box _ _, _, _, _, _⟩ :: _) _ _; go_must (refine wpList_box_blk rfl 26 _ rfl ps rfl (L + 1) hs1 ?_); intro w2 hB2 hb2 hs2; have HB2 := hid hB2; have Hb2 := hid hb2; clear hB2 hb2)
    | (show wpList _ _ _ (⟨some 9, Op.box _ _, _, _, _, _⟩ :: _) _ _; go_must (refine wpList_box_blk rfl 40 _ rfl cs rfl (L + 2) hs2 ?_); intro w3 hB3 hb3 hs3; have HB3 := hid hB3; have Hb3 := hid hb3; clear hB3 hb3)
    | (show wpList _ _ _ (⟨some 12, Op.alloc _, _, _, _, _⟩ :: _) _ _; go_must (refine wpList_alloc_blk rfl 56 rfl _ HZ.out (L + 3) hs3 ?_); intro w4 hB4 hb4 hs4; have HB4 := hid hB4; have Hb4 := hid hb4; clear hB4 hb4))
  -- REGION1
  have HS := hid (show HB L (L + 4) w [(40, L + 2, cs), (26, L + 1, ps), (35, L, ks)] (L + 3) 56 99 w4.drew from by
    refine HB.drew (HB.cons (HB.cons (HB.cons (HB.nil (by omega) HB4.out HZL.out (Hb1.out.trans ((Hb2.out.mono (by omega)).trans ((Hb3.out.mono (by omega)).trans (Hb4.out.mono (by omega))))) (by omega) (by omega)) ?_ (by omega) (by omega)) ?_ (by omega) (by omega)) ?_ (by omega) (by omega))
    · exact ((HB1.out.kept (Hb2.out.block L (by omega))).kept (Hb3.out.block L (by omega))).kept (Hb4.out.block L (by omega))
    · exact (HB2.out.kept (Hb3.out.block (L + 1) (by omega))).kept (Hb4.out.block (L + 1) (by omega))
    · exact HB3.out.kept (Hb4.out.block (L + 2) (by omega)))
  clear hs1 hs2 hs3 hs4 HB1 HB2 HB3 HB4 Hb1 Hb2 Hb3 Hb4
  try simp only [Act.put, List.setIfInBounds_toArray, List.set_cons_zero, List.set_cons_succ, List.getElem_toArray, List.getElem_cons_zero, List.getElem_cons_succ]
  go_cut [13] (fun s w' => EntryAt L w [(40, L + 2, cs), (26, L + 1, ps), (35, L, ks)] at_ m o body n s w')
  case first =>
    refine wp_region_held_drew (S := fun w' => HB L (L + 4) w [(40, L + 2, cs), (26, L + 1, ps), (35, L, ks)] (L + 3) 56 99 w') (by kernel_rfl) (HS.out) (fun hHeld => ?_)
    generalize w4.drew = wd at *
    refine wpAnyH_take (i := 1) (v := .pointer (some ⟨L + 2, 0, none⟩)) rfl (by kernel_rfl) (by kernel_rfl) (by kernel_rfl) (fun _ _ _ h => h) (Or.inl ⟨by rfl, by intro w hSw; go_simp⟩) hHeld ?_
    try simp only [Act.put, List.setIfInBounds_toArray, List.set_cons_zero, List.set_cons_succ, List.getElem_toArray, List.getElem_cons_zero, List.getElem_cons_succ]
    refine wpAnyH_take (i := 2) (v := .slice ao n cap) rfl (by kernel_rfl) (by kernel_rfl) (by kernel_rfl) (fun _ _ _ h => h) (Or.inl ⟨by rfl, by intro w hSw; have q := HBW.out _ hSw.fst; go_simp⟩) hHeld ?_
    try simp only [Act.put, List.setIfInBounds_toArray, List.set_cons_zero, List.set_cons_succ, List.getElem_toArray, List.getElem_cons_zero, List.getElem_cons_succ]
    refine wpAnyH_take (i := 4) (v := .pointer (some ⟨L + 2, 1, none⟩)) rfl (by kernel_rfl) (by kernel_rfl) (by kernel_rfl) (fun _ _ _ h => h) (Or.inl ⟨by rfl, by intro w hSw; go_simp⟩) hHeld ?_
    try simp only [Act.put, List.setIfInBounds_toArray, List.set_cons_zero, List.set_cons_succ, List.getElem_toArray, List.getElem_cons_zero, List.getElem_cons_succ]
    refine wpAnyH_take (i := 5) (v := _) rfl (by kernel_rfl) (by kernel_rfl) (by kernel_rfl) (fun _ _ _ h => h) (yieldsIf_load_mid (by rfl) _ _ rfl _ _ rfl ms _ (fun w hSw => (HMW.out _ hSw.fst)) Tryd.underlying26 rfl (by rw [HML.out]; exact HIH.out)) hHeld ?_
    try simp only [Act.put, List.setIfInBounds_toArray, List.set_cons_zero, List.set_cons_succ, List.getElem_toArray, List.getElem_cons_zero, List.getElem_cons_succ]
    refine wpAnyH_take (i := 7) (v := .int .i64 at_) rfl (by kernel_rfl) (by kernel_rfl) (by kernel_rfl) (fun _ _ _ h => h) (Or.inl ⟨by rfl, by intro w hSw; go_simp⟩) hHeld ?_
    try simp only [Act.put, List.setIfInBounds_toArray, List.set_cons_zero, List.set_cons_succ, List.getElem_toArray, List.getElem_cons_zero, List.getElem_cons_succ]
    refine wpAnyH_take (i := 9) (v := ov) rfl (by kernel_rfl) (by kernel_rfl) (by kernel_rfl) (fun _ _ _ h => h) (Or.inl ⟨by rfl, by intro w hSw; go_simp⟩) hHeld ?_
    try simp only [Act.put, List.setIfInBounds_toArray, List.set_cons_zero, List.set_cons_succ, List.getElem_toArray, List.getElem_cons_zero, List.getElem_cons_succ]
    have HI := hid (It3.none wd)
    refine wpAnyH_ready (rs := [0, 8, 12]) (by kernel_rfl) (by simp) ?_
    refine AllReadyH.cons rfl (fun K hK => ?_) (AllReadyH.cons rfl (fun K hK => ?_) (AllReadyH.cons rfl (fun K hK => ?_) (AllReadyH.nil)))
    · go_simp
      obtain ⟨gb, hgb⟩ : ∃ g, wd.heap.size = g := ⟨_, rfl⟩
      obtain ⟨u_1, hw1⟩ : ∃ u, wd.alloc (.cells #[] 5) = u := ⟨_, rfl⟩
      have hbT := HB.above hHeld (w'' := u_1) (by rw [← hw1]; exact (Below.refl _ _).alloc hHeld.size _)
      replace HI := hid (HI.out.new0 (w' := u_1) (g := gb) (ob := .cells #[] 5) (fun k hk => by rw [← hw1]; exact Below.heap_alloc _ _ _ hk) (by rw [← hw1, ← hgb]; exact heap_alloc_new _ _) (by omega))
      have gT : L + 4 ≤ gb := by have := hHeld.size; omega
      have FO := hid (fun (w' : World) (h : w'.heap[gb]? = some (.cells #[] 5)) => (show Owns w' 5 gb 0 0 [] from ⟨rfl, Nat.le_refl _, Nat.zero_le _, #[], h, rfl, rfl⟩))
      rw [hw1, hgb]
      clear hw1 hgb
      refine hK.out _ _ (hbT) (fun hHeld => ?_)
      clear hK K
      try simp only [Act.put, List.setIfInBounds_toArray, List.set_cons_zero, List.set_cons_succ, List.getElem_toArray, List.getElem_cons_zero, List.getElem_cons_succ]
      clear hbT
      refine wpAnyH_ready (rs := [3, 8, 12]) (by kernel_rfl) (by simp) ?_
      refine AllReadyH.cons rfl (fun K hK => ?_) (AllReadyH.cons rfl (fun K hK => ?_) (AllReadyH.cons rfl (fun K hK => ?_) (AllReadyH.nil)))
      · refine Eq.mpr (if_pos (by rfl)) ?_
        refine wp_append_src9 _ _ _ 22 22 rfl 5 i0 (.int .u8 0) Tryd.underlying22 hi hz0 hz1 hz2 rfl gb 0 0 [] rfl (FO.out _ HI.out.rb) _ n (B body) rfl (Src.ofBytes _ Tryd.underlying22 HN.out (HRD.out.later (by rw [hL]; exact hHeld.bel))) (by omega) ?_
        intro gb3 cb3 u_2 hG3
        rw [Nat.zero_add n, List.nil_append] at hG3
        rw [Nat.zero_add n]
        have hbT := HB.above hHeld (w'' := u_2) (hG3.below (Below.refl _ _) gT)
        obtain ⟨ob3, ho3, FO3⟩ := hG3.own.obj9
        replace HI := hid (HI.out.set0 (w' := u_2) (fun k hk hne => hG3.grown.block k hk (by intro e; injection e with e; exact hne e.symm)) (by rcases hG3.blk with ⟨h, _⟩ | h; exact Or.inl h; exact Or.inr h) ho3)
        have gT3 : L + 4 ≤ gb3 := by
          rcases hG3.blk with ⟨h, _⟩ | h
          · omega
          · have := hHeld.size; omega
        replace FO := hid FO3
        clear hG3 ho3 FO3
        refine hK.out _ _ (hbT) (fun hHeld => ?_)
        clear hK K
        try simp only [Act.put, List.setIfInBounds_toArray, List.set_cons_zero, List.set_cons_succ, List.getElem_toArray, List.getElem_cons_zero, List.getElem_cons_succ]
        clear hbT
        refine wpAnyH_take (i := 6) (v := .agg (sgC (.slice (some ⟨gb3, 0, none⟩) n cb3) m).toArray) rfl (by kernel_rfl) (by kernel_rfl) (by kernel_rfl) (fun _ _ _ h => h) (yields_build9 (by rfl) 40 #[(0, .tmp 17), (1, .tmp 19)] rfl #[(0, .slice (some ⟨gb3, 0, none⟩) n cb3), (1, .agg ms.toArray)] (by first | rfl | simp [Act.eval]) _ (fun w => by rw [← HMS.out]; exact run_signed w _ n cb3 m HM.out)) hHeld ?_
        try simp only [Act.put, List.setIfInBounds_toArray, List.set_cons_zero, List.set_cons_succ, List.getElem_toArray, List.getElem_cons_zero, List.getElem_cons_succ]
        refine wpAnyH_ready (rs := [8, 12]) (by kernel_rfl) (by simp) ?_
        refine AllReadyH.cons rfl (fun K hK => ?_) (AllReadyH.cons rfl (fun K hK => ?_) (AllReadyH.nil))
        · go_simp
          obtain ⟨gc, hgc⟩ : ∃ g, u_2.heap.size = g := ⟨_, rfl⟩
          obtain ⟨u_3, hw1⟩ : ∃ u, u_2.alloc (.cells #[] 62) = u := ⟨_, rfl⟩
          have hbT := HB.above hHeld (w'' := u_3) (by rw [← hw1]; exact (Below.refl _ _).alloc hHeld.size _)
          replace HI := hid (HI.out.new8 (w' := u_3) (g := gc) (ob := .cells #[] 62) (fun k hk => by rw [← hw1]; exact Below.heap_alloc _ _ _ hk) (by rw [← hw1, ← hgc]; exact heap_alloc_new _ _) (by omega))
          have cT : L + 4 ≤ gc := by have := hHeld.size; omega
          have FC := hid (fun (w' : World) (h : ∀ x ∈ (some (gc, Obj.cells #[] 62) : Option (Nat × Obj)), w'.heap[x.1]? = some x.2) => (show HasC w' (L + 4) (.slice (some ⟨gc, 0, none⟩) 0 0) [] from empty9 (h _ rfl) cT))
          rw [hw1, hgc]
          clear hw1 hgc
          refine hK.out _ _ (hbT) (fun hHeld => ?_)
          clear hK K
          try simp only [Act.put, List.setIfInBounds_toArray, List.set_cons_zero, List.set_cons_succ, List.getElem_toArray, List.getElem_cons_zero, List.getElem_cons_succ]
          clear hbT
          refine wpAnyH_ready (rs := [10, 12]) (by kernel_rfl) (by simp) ?_
          refine AllReadyH.cons rfl (fun K hK => ?_) (AllReadyH.cons rfl (fun K hK => ?_) (AllReadyH.nil))
          · refine Eq.mpr (if_pos (by rfl)) ?_
            refine wp_append_c9 _ _ rfl (L + 4) (.slice (some ⟨gc, 0, none⟩) 0 0) [] rfl (FC.out _ HI.out.rc) hHeld.size ov o rfl (HV.out.later (by rw [hL]; exact hHeld.bel)) (by have := HF.out.1; simp; omega) ?_
            intro v10 u_4 hH10 hB10 hkp hkq
            rw [List.nil_append] at hH10
            have hbT := HB.above hHeld (w'' := u_4) hB10
            obtain ⟨c10, hc10, hd10, FC10⟩ := hH10.opt9
            replace HI := hid (HI.out.set8 (w' := u_4) (c' := c10) (fun k hk hne => hkp k hk (by intro e; injection e with e; exact hne e.symm)) (fun x hx => by rcases hkq _ (hc10 x hx).2 with h | h; injection h with h; exact Or.inl h.symm; exact Or.inr h) (fun x hx => (hc10 x hx).1))
            obtain ⟨a10, p10, rfl⟩ := hH10.form
            have HBK := hid hd10
            replace FC := hid FC10
            clear hH10 hB10 hkp hkq FC10
            obtain ⟨es, hes⟩ : ∃ es, (⟨m, at_, List.replicate 32 0, List.replicate 32 0⟩ : En).cells (.slice (some ⟨gb3, 0, none⟩) n cb3) (.slice a10 o.length p10) = es := ⟨_, rfl⟩
            have HES := hid hes
            have HEB := hid (show ∀ wx, (Instr.build 56 #[(0, .agg (sgC (.slice (some ⟨gb3, 0, none⟩) n cb3) m).toArray), (1, .int .i64 at_), (2, .slice a10 o.length p10)]).run Tryd.prog wx = .ok (.agg es.toArray) wx from fun wx => by rw [← hes]; exact run_entry9 wx _ n cb3 m HM.out at_ a10 o.length p10)
            clear hes
            refine hK.out _ _ (hbT) (fun hHeld => ?_)
            clear hK K
            try simp only [Act.put, List.setIfInBounds_toArray, List.set_cons_zero, List.set_cons_succ, List.getElem_toArray, List.getElem_cons_zero, List.getElem_cons_succ]
            clear hbT
            refine wpAnyH_take (i := 11) (v := .agg es.toArray) rfl (by kernel_rfl) (by kernel_rfl) (by kernel_rfl) (fun _ _ _ h => h) (yields_build9 (by rfl) 56 #[(0, .tmp 20), (1, .tmp 21), (2, .tmp 24)] rfl #[(0, .agg (sgC (.slice (some ⟨gb3, 0, none⟩) n cb3) m).toArray), (1, .int .i64 at_), (2, .slice a10 o.length p10)] (by first | rfl | simp [Act.eval]) _ HEB.out) hHeld ?_
            try simp only [Act.put, List.setIfInBounds_toArray, List.set_cons_zero, List.set_cons_succ, List.getElem_toArray, List.getElem_cons_zero, List.getElem_cons_succ]
            refine wpAnyH_ready (rs := [12]) (by kernel_rfl) (by simp) ?_
            refine AllReadyH.cons rfl (fun K hK => ?_) (AllReadyH.nil)
            obtain ⟨E, hE⟩ : ∃ g, u_4.heap.size = g := ⟨_, rfl⟩
            refine Eq.mpr (if_pos (by rfl)) ?_
            refine wp_alloc_blk 56 rfl _ HZ.out E hE ?_
            intro u_5 hB12 hb12 hs12
            have eT : L + 4 ≤ E := by have := hHeld.size; omega
            have hbT := HB.above hHeld (w'' := u_5) (hb12.mono eT)
            replace HI := hid (HI.out.new12 (w' := u_5) (g := E) (ob := .cells zs.toArray 56) (fun k hk => hb12.block k (by omega)) hB12 (by omega))
            clear hB12 hb12 hs12 hE
            refine hK.out _ _ (hbT) (fun hHeld => ?_)
            clear hK K
            try simp only [Act.put, List.setIfInBounds_toArray, List.set_cons_zero, List.set_cons_succ, List.getElem_toArray, List.getElem_cons_zero, List.getElem_cons_succ]
            clear hbT
            refine wpAnyH_ready (rs := [13]) (by kernel_rfl) (by simp) ?_
            refine AllReadyH.cons rfl (fun K hK => ?_) (AllReadyH.nil)
            have HEL := hid (show es.length = 99 by rw [← HES.out]; exact En.len HOK.out)
            have HEO := hid (show ∀ v ∈ es, v.oneCell' = true by rw [← HES.out]; exact En.one rfl rfl)
            have hBE : Blk u_5 56 E zs := HI.out.re
            refine Eq.mpr (if_pos (by rfl)) ?_
            refine wp_store_list 56 _ _ rfl E 0 es rfl rfl (hBE.there (by rw [HEL.out, HZL.out]; omega)) (by rw [HEL.out]; exact HIE.out) HEO.out ?_
            intro u_6 hw13
            have hB13 : Blk u_6 56 E es := by
              rw [hw13]
              have h3 := Blk.setCells es [] zs [] (o := 0) (by simpa using hBE) (by rw [HZL.out, HEL.out]) rfl
              simpa using h3
            have hbT := HB.above hHeld (w'' := u_6) (by rw [hw13]; exact below_setCells eT _ _ (Below.refl _ _))
            have hI := HI.out.set12 (w' := u_6) (ob' := .cells es.toArray 56) (fun k hk hne => by rw [hw13]; exact setCells_heap hne es 0 _) hB13
            have HFIN := hid (show EntryAt L w [(40, L + 2, cs), (26, L + 1, ps), (35, L, ks)] at_ m o body n (.pointer (some ⟨E, 0, none⟩)) u_6 from ⟨E, gb3, cb3, .slice a10 o.length p10, rfl, hbT, ⟨HOK.out, by rw [HES.out]; exact hB13⟩, FO.out _ hI.rb, FC.out _ hI.rc, eT, gT3, hI.be, fun k hk => by obtain ⟨ob, rfl⟩ := HBK.out k hk; exact hI.ceo _ rfl _ rfl⟩)
            clear hw13 hBE hB13 hI
            refine hK.out _ _ (hbT) (fun hHeld => ?_)
            clear hK K
            try simp only [Act.put, List.setIfInBounds_toArray, List.set_cons_zero, List.set_cons_succ, List.getElem_toArray, List.getElem_cons_zero, List.getElem_cons_succ]
            clear hbT
            refine wpAnyH_done (by kernel_rfl) ?_ _
            go_wp2_with fail
            go_meet
            exact HFIN.out
          · obtain ⟨E, hE⟩ : ∃ g, u_3.heap.size = g := ⟨_, rfl⟩
            refine Eq.mpr (if_pos (by rfl)) ?_
            refine wp_alloc_blk 56 rfl _ HZ.out E hE ?_
            intro u_4 hB12 hb12 hs12
            have eT : L + 4 ≤ E := by have := hHeld.size; omega
            have hbT := HB.above hHeld (w'' := u_4) (hb12.mono eT)
            replace HI := hid (HI.out.new12 (w' := u_4) (g := E) (ob := .cells zs.toArray 56) (fun k hk => hb12.block k (by omega)) hB12 (by omega))
            clear hB12 hb12 hs12 hE
            refine hK.out _ _ (hbT) (fun hHeld => ?_)
            clear hK K
            try simp only [Act.put, List.setIfInBounds_toArray, List.set_cons_zero, List.set_cons_succ, List.getElem_toArray, List.getElem_cons_zero, List.getElem_cons_succ]
            clear hbT
            refine wpAnyH_ready (rs := [10]) (by kernel_rfl) (by simp) ?_
            refine AllReadyH.cons rfl (fun K hK => ?_) (AllReadyH.nil)
            refine Eq.mpr (if_pos (by rfl)) ?_
            refine wp_append_c9 _ _ rfl (L + 4) (.slice (some ⟨gc, 0, none⟩) 0 0) [] rfl (FC.out _ HI.out.rc) hHeld.size ov o rfl (HV.out.later (by rw [hL]; exact hHeld.bel)) (by have := HF.out.1; simp; omega) ?_
            intro v10 u_5 hH10 hB10 hkp hkq
            rw [List.nil_append] at hH10
            have hbT := HB.above hHeld (w'' := u_5) hB10
            obtain ⟨c10, hc10, hd10, FC10⟩ := hH10.opt9
            replace HI := hid (HI.out.set8 (w' := u_5) (c' := c10) (fun k hk hne => hkp k hk (by intro e; injection e with e; exact hne e.symm)) (fun x hx => by rcases hkq _ (hc10 x hx).2 with h | h; injection h with h; exact Or.inl h.symm; exact Or.inr h) (fun x hx => (hc10 x hx).1))
            obtain ⟨a10, p10, rfl⟩ := hH10.form
            have HBK := hid hd10
            replace FC := hid FC10
            clear hH10 hB10 hkp hkq FC10
            obtain ⟨es, hes⟩ : ∃ es, (⟨m, at_, List.replicate 32 0, List.replicate 32 0⟩ : En).cells (.slice (some ⟨gb3, 0, none⟩) n cb3) (.slice a10 o.length p10) = es := ⟨_, rfl⟩
            have HES := hid hes
            have HEB := hid (show ∀ wx, (Instr.build 56 #[(0, .agg (sgC (.slice (some ⟨gb3, 0, none⟩) n cb3) m).toArray), (1, .int .i64 at_), (2, .slice a10 o.length p10)]).run Tryd.prog wx = .ok (.agg es.toArray) wx from fun wx => by rw [← hes]; exact run_entry9 wx _ n cb3 m HM.out at_ a10 o.length p10)
            clear hes
            refine hK.out _ _ (hbT) (fun hHeld => ?_)
            clear hK K
            try simp only [Act.put, List.setIfInBounds_toArray, List.set_cons_zero, List.set_cons_succ, List.getElem_toArray, List.getElem_cons_zero, List.getElem_cons_succ]
            clear hbT
            refine wpAnyH_take (i := 11) (v := .agg es.toArray) rfl (by kernel_rfl) (by kernel_rfl) (by kernel_rfl) (fun _ _ _ h => h) (yields_build9 (by rfl) 56 #[(0, .tmp 20), (1, .tmp 21), (2, .tmp 24)] rfl #[(0, .agg (sgC (.slice (some ⟨gb3, 0, none⟩) n cb3) m).toArray), (1, .int .i64 at_), (2, .slice a10 o.length p10)] (by first | rfl | simp [Act.eval]) _ HEB.out) hHeld ?_
            try simp only [Act.put, List.setIfInBounds_toArray, List.set_cons_zero, List.set_cons_succ, List.getElem_toArray, List.getElem_cons_zero, List.getElem_cons_succ]
            refine wpAnyH_ready (rs := [13]) (by kernel_rfl) (by simp) ?_
            refine AllReadyH.cons rfl (fun K hK => ?_) (AllReadyH.nil)
            have HEL := hid (show es.length = 99 by rw [← HES.out]; exact En.len HOK.out)
            have HEO := hid (show ∀ v ∈ es, v.oneCell' = true by rw [← HES.out]; exact En.one rfl rfl)
            have hBE : Blk u_5 56 E zs := HI.out.re
            refine Eq.mpr (if_pos (by rfl)) ?_
            refine wp_store_list 56 _ _ rfl E 0 es rfl rfl (hBE.there (by rw [HEL.out, HZL.out]; omega)) (by rw [HEL.out]; exact HIE.out) HEO.out ?_
            intro u_6 hw13
            have hB13 : Blk u_6 56 E es := by
              rw [hw13]
              have h3 := Blk.setCells es [] zs [] (o := 0) (by simpa using hBE) (by rw [HZL.out, HEL.out]) rfl
              simpa using h3
            have hbT := HB.above hHeld (w'' := u_6) (by rw [hw13]; exact below_setCells eT _ _ (Below.refl _ _))
            have hI := HI.out.set12 (w' := u_6) (ob' := .cells es.toArray 56) (fun k hk hne => by rw [hw13]; exact setCells_heap hne es 0 _) hB13
            have HFIN := hid (show EntryAt L w [(40, L + 2, cs), (26, L + 1, ps), (35, L, ks)] at_ m o body n (.pointer (some ⟨E, 0, none⟩)) u_6 from ⟨E, gb3, cb3, .slice a10 o.length p10, rfl, hbT, ⟨HOK.out, by rw [HES.out]; exact hB13⟩, FO.out _ hI.rb, FC.out _ hI.rc, eT, gT3, hI.be, fun k hk => by obtain ⟨ob, rfl⟩ := HBK.out k hk; exact hI.ceo _ rfl _ rfl⟩)
            clear hw13 hBE hB13 hI
            refine hK.out _ _ (hbT) (fun hHeld => ?_)
            clear hK K
            try simp only [Act.put, List.setIfInBounds_toArray, List.set_cons_zero, List.set_cons_succ, List.getElem_toArray, List.getElem_cons_zero, List.getElem_cons_succ]
            clear hbT
            refine wpAnyH_done (by kernel_rfl) ?_ _
            go_wp2_with fail
            go_meet
            exact HFIN.out
        · obtain ⟨E, hE⟩ : ∃ g, u_2.heap.size = g := ⟨_, rfl⟩
          refine Eq.mpr (if_pos (by rfl)) ?_
          refine wp_alloc_blk 56 rfl _ HZ.out E hE ?_
          intro u_3 hB12 hb12 hs12
          have eT : L + 4 ≤ E := by have := hHeld.size; omega
          have hbT := HB.above hHeld (w'' := u_3) (hb12.mono eT)
          replace HI := hid (HI.out.new12 (w' := u_3) (g := E) (ob := .cells zs.toArray 56) (fun k hk => hb12.block k (by omega)) hB12 (by omega))
          clear hB12 hb12 hs12 hE
          refine hK.out _ _ (hbT) (fun hHeld => ?_)
          clear hK K
          try simp only [Act.put, List.setIfInBounds_toArray, List.set_cons_zero, List.set_cons_succ, List.getElem_toArray, List.getElem_cons_zero, List.getElem_cons_succ]
          clear hbT
          refine wpAnyH_ready (rs := [8]) (by kernel_rfl) (by simp) ?_
          refine AllReadyH.cons rfl (fun K hK => ?_) (AllReadyH.nil)
          go_simp
          obtain ⟨gc, hgc⟩ : ∃ g, u_3.heap.size = g := ⟨_, rfl⟩
          obtain ⟨u_4, hw1⟩ : ∃ u, u_3.alloc (.cells #[] 62) = u := ⟨_, rfl⟩
          have hbT := HB.above hHeld (w'' := u_4) (by rw [← hw1]; exact (Below.refl _ _).alloc hHeld.size _)
          replace HI := hid (HI.out.new8 (w' := u_4) (g := gc) (ob := .cells #[] 62) (fun k hk => by rw [← hw1]; exact Below.heap_alloc _ _ _ hk) (by rw [← hw1, ← hgc]; exact heap_alloc_new _ _) (by omega))
          have cT : L + 4 ≤ gc := by have := hHeld.size; omega
          have FC := hid (fun (w' : World) (h : ∀ x ∈ (some (gc, Obj.cells #[] 62) : Option (Nat × Obj)), w'.heap[x.1]? = some x.2) => (show HasC w' (L + 4) (.slice (some ⟨gc, 0, none⟩) 0 0) [] from empty9 (h _ rfl) cT))
          rw [hw1, hgc]
          clear hw1 hgc
          refine hK.out _ _ (hbT) (fun hHeld => ?_)
          clear hK K
          try simp only [Act.put, List.setIfInBounds_toArray, List.set_cons_zero, List.set_cons_succ, List.getElem_toArray, List.getElem_cons_zero, List.getElem_cons_succ]
          clear hbT
          refine wpAnyH_ready (rs := [10]) (by kernel_rfl) (by simp) ?_
          refine AllReadyH.cons rfl (fun K hK => ?_) (AllReadyH.nil)
          refine Eq.mpr (if_pos (by rfl)) ?_
          refine wp_append_c9 _ _ rfl (L + 4) (.slice (some ⟨gc, 0, none⟩) 0 0) [] rfl (FC.out _ HI.out.rc) hHeld.size ov o rfl (HV.out.later (by rw [hL]; exact hHeld.bel)) (by have := HF.out.1; simp; omega) ?_
          intro v10 u_5 hH10 hB10 hkp hkq
          rw [List.nil_append] at hH10
          have hbT := HB.above hHeld (w'' := u_5) hB10
          obtain ⟨c10, hc10, hd10, FC10⟩ := hH10.opt9
          replace HI := hid (HI.out.set8 (w' := u_5) (c' := c10) (fun k hk hne => hkp k hk (by intro e; injection e with e; exact hne e.symm)) (fun x hx => by rcases hkq _ (hc10 x hx).2 with h | h; injection h with h; exact Or.inl h.symm; exact Or.inr h) (fun x hx => (hc10 x hx).1))
          obtain ⟨a10, p10, rfl⟩ := hH10.form
          have HBK := hid hd10
          replace FC := hid FC10
          clear hH10 hB10 hkp hkq FC10
          obtain ⟨es, hes⟩ : ∃ es, (⟨m, at_, List.replicate 32 0, List.replicate 32 0⟩ : En).cells (.slice (some ⟨gb3, 0, none⟩) n cb3) (.slice a10 o.length p10) = es := ⟨_, rfl⟩
          have HES := hid hes
          have HEB := hid (show ∀ wx, (Instr.build 56 #[(0, .agg (sgC (.slice (some ⟨gb3, 0, none⟩) n cb3) m).toArray), (1, .int .i64 at_), (2, .slice a10 o.length p10)]).run Tryd.prog wx = .ok (.agg es.toArray) wx from fun wx => by rw [← hes]; exact run_entry9 wx _ n cb3 m HM.out at_ a10 o.length p10)
          clear hes
          refine hK.out _ _ (hbT) (fun hHeld => ?_)
          clear hK K
          try simp only [Act.put, List.setIfInBounds_toArray, List.set_cons_zero, List.set_cons_succ, List.getElem_toArray, List.getElem_cons_zero, List.getElem_cons_succ]
          clear hbT
          refine wpAnyH_take (i := 11) (v := .agg es.toArray) rfl (by kernel_rfl) (by kernel_rfl) (by kernel_rfl) (fun _ _ _ h => h) (yields_build9 (by rfl) 56 #[(0, .tmp 20), (1, .tmp 21), (2, .tmp 24)] rfl #[(0, .agg (sgC (.slice (some ⟨gb3, 0, none⟩) n cb3) m).toArray), (1, .int .i64 at_), (2, .slice a10 o.length p10)] (by first | rfl | simp [Act.eval]) _ HEB.out) hHeld ?_
          try simp only [Act.put, List.setIfInBounds_toArray, List.set_cons_zero, List.set_cons_succ, List.getElem_toArray, List.getElem_cons_zero, List.getElem_cons_succ]
          refine wpAnyH_ready (rs := [13]) (by kernel_rfl) (by simp) ?_
          refine AllReadyH.cons rfl (fun K hK => ?_) (AllReadyH.nil)
          have HEL := hid (show es.length = 99 by rw [← HES.out]; exact En.len HOK.out)
          have HEO := hid (show ∀ v ∈ es, v.oneCell' = true by rw [← HES.out]; exact En.one rfl rfl)
          have hBE : Blk u_5 56 E zs := HI.out.re
          refine Eq.mpr (if_pos (by rfl)) ?_
          refine wp_store_list 56 _ _ rfl E 0 es rfl rfl (hBE.there (by rw [HEL.out, HZL.out]; omega)) (by rw [HEL.out]; exact HIE.out) HEO.out ?_
          intro u_6 hw13
          have hB13 : Blk u_6 56 E es := by
            rw [hw13]
            have h3 := Blk.setCells es [] zs [] (o := 0) (by simpa using hBE) (by rw [HZL.out, HEL.out]) rfl
            simpa using h3
          have hbT := HB.above hHeld (w'' := u_6) (by rw [hw13]; exact below_setCells eT _ _ (Below.refl _ _))
          have hI := HI.out.set12 (w' := u_6) (ob' := .cells es.toArray 56) (fun k hk hne => by rw [hw13]; exact setCells_heap hne es 0 _) hB13
          have HFIN := hid (show EntryAt L w [(40, L + 2, cs), (26, L + 1, ps), (35, L, ks)] at_ m o body n (.pointer (some ⟨E, 0, none⟩)) u_6 from ⟨E, gb3, cb3, .slice a10 o.length p10, rfl, hbT, ⟨HOK.out, by rw [HES.out]; exact hB13⟩, FO.out _ hI.rb, FC.out _ hI.rc, eT, gT3, hI.be, fun k hk => by obtain ⟨ob, rfl⟩ := HBK.out k hk; exact hI.ceo _ rfl _ rfl⟩)
          clear hw13 hBE hB13 hI
          refine hK.out _ _ (hbT) (fun hHeld => ?_)
          clear hK K
          try simp only [Act.put, List.setIfInBounds_toArray, List.set_cons_zero, List.set_cons_succ, List.getElem_toArray, List.getElem_cons_zero, List.getElem_cons_succ]
          clear hbT
          refine wpAnyH_done (by kernel_rfl) ?_ _
          go_wp2_with fail
          go_meet
          exact HFIN.out
      · go_simp
        obtain ⟨gc, hgc⟩ : ∃ g, u_1.heap.size = g := ⟨_, rfl⟩
        obtain ⟨u_2, hw1⟩ : ∃ u, u_1.alloc (.cells #[] 62) = u := ⟨_, rfl⟩
        have hbT := HB.above hHeld (w'' := u_2) (by rw [← hw1]; exact (Below.refl _ _).alloc hHeld.size _)
        replace HI := hid (HI.out.new8 (w' := u_2) (g := gc) (ob := .cells #[] 62) (fun k hk => by rw [← hw1]; exact Below.heap_alloc _ _ _ hk) (by rw [← hw1, ← hgc]; exact heap_alloc_new _ _) (by omega))
        have cT : L + 4 ≤ gc := by have := hHeld.size; omega
        have FC := hid (fun (w' : World) (h : ∀ x ∈ (some (gc, Obj.cells #[] 62) : Option (Nat × Obj)), w'.heap[x.1]? = some x.2) => (show HasC w' (L + 4) (.slice (some ⟨gc, 0, none⟩) 0 0) [] from empty9 (h _ rfl) cT))
        rw [hw1, hgc]
        clear hw1 hgc
        refine hK.out _ _ (hbT) (fun hHeld => ?_)
        clear hK K
        try simp only [Act.put, List.setIfInBounds_toArray, List.set_cons_zero, List.set_cons_succ, List.getElem_toArray, List.getElem_cons_zero, List.getElem_cons_succ]
        clear hbT
        refine wpAnyH_ready (rs := [3, 12]) (by kernel_rfl) (by simp) ?_
        refine AllReadyH.cons rfl (fun K hK => ?_) (AllReadyH.cons rfl (fun K hK => ?_) (AllReadyH.nil))
        · refine Eq.mpr (if_pos (by rfl)) ?_
          refine wp_append_src9 _ _ _ 22 22 rfl 5 i0 (.int .u8 0) Tryd.underlying22 hi hz0 hz1 hz2 rfl gb 0 0 [] rfl (FO.out _ HI.out.rb) _ n (B body) rfl (Src.ofBytes _ Tryd.underlying22 HN.out (HRD.out.later (by rw [hL]; exact hHeld.bel))) (by omega) ?_
          intro gb3 cb3 u_3 hG3
          rw [Nat.zero_add n, List.nil_append] at hG3
          rw [Nat.zero_add n]
          have hbT := HB.above hHeld (w'' := u_3) (hG3.below (Below.refl _ _) gT)
          obtain ⟨ob3, ho3, FO3⟩ := hG3.own.obj9
          replace HI := hid (HI.out.set0 (w' := u_3) (fun k hk hne => hG3.grown.block k hk (by intro e; injection e with e; exact hne e.symm)) (by rcases hG3.blk with ⟨h, _⟩ | h; exact Or.inl h; exact Or.inr h) ho3)
          have gT3 : L + 4 ≤ gb3 := by
            rcases hG3.blk with ⟨h, _⟩ | h
            · omega
            · have := hHeld.size; omega
          replace FO := hid FO3
          clear hG3 ho3 FO3
          refine hK.out _ _ (hbT) (fun hHeld => ?_)
          clear hK K
          try simp only [Act.put, List.setIfInBounds_toArray, List.set_cons_zero, List.set_cons_succ, List.getElem_toArray, List.getElem_cons_zero, List.getElem_cons_succ]
          clear hbT
          refine wpAnyH_take (i := 6) (v := .agg (sgC (.slice (some ⟨gb3, 0, none⟩) n cb3) m).toArray) rfl (by kernel_rfl) (by kernel_rfl) (by kernel_rfl) (fun _ _ _ h => h) (yields_build9 (by rfl) 40 #[(0, .tmp 17), (1, .tmp 19)] rfl #[(0, .slice (some ⟨gb3, 0, none⟩) n cb3), (1, .agg ms.toArray)] (by first | rfl | simp [Act.eval]) _ (fun w => by rw [← HMS.out]; exact run_signed w _ n cb3 m HM.out)) hHeld ?_
          try simp only [Act.put, List.setIfInBounds_toArray, List.set_cons_zero, List.set_cons_succ, List.getElem_toArray, List.getElem_cons_zero, List.getElem_cons_succ]
          refine wpAnyH_ready (rs := [10, 12]) (by kernel_rfl) (by simp) ?_
          refine AllReadyH.cons rfl (fun K hK => ?_) (AllReadyH.cons rfl (fun K hK => ?_) (AllReadyH.nil))
          · refine Eq.mpr (if_pos (by rfl)) ?_
            refine wp_append_c9 _ _ rfl (L + 4) (.slice (some ⟨gc, 0, none⟩) 0 0) [] rfl (FC.out _ HI.out.rc) hHeld.size ov o rfl (HV.out.later (by rw [hL]; exact hHeld.bel)) (by have := HF.out.1; simp; omega) ?_
            intro v10 u_4 hH10 hB10 hkp hkq
            rw [List.nil_append] at hH10
            have hbT := HB.above hHeld (w'' := u_4) hB10
            obtain ⟨c10, hc10, hd10, FC10⟩ := hH10.opt9
            replace HI := hid (HI.out.set8 (w' := u_4) (c' := c10) (fun k hk hne => hkp k hk (by intro e; injection e with e; exact hne e.symm)) (fun x hx => by rcases hkq _ (hc10 x hx).2 with h | h; injection h with h; exact Or.inl h.symm; exact Or.inr h) (fun x hx => (hc10 x hx).1))
            obtain ⟨a10, p10, rfl⟩ := hH10.form
            have HBK := hid hd10
            replace FC := hid FC10
            clear hH10 hB10 hkp hkq FC10
            obtain ⟨es, hes⟩ : ∃ es, (⟨m, at_, List.replicate 32 0, List.replicate 32 0⟩ : En).cells (.slice (some ⟨gb3, 0, none⟩) n cb3) (.slice a10 o.length p10) = es := ⟨_, rfl⟩
            have HES := hid hes
            have HEB := hid (show ∀ wx, (Instr.build 56 #[(0, .agg (sgC (.slice (some ⟨gb3, 0, none⟩) n cb3) m).toArray), (1, .int .i64 at_), (2, .slice a10 o.length p10)]).run Tryd.prog wx = .ok (.agg es.toArray) wx from fun wx => by rw [← hes]; exact run_entry9 wx _ n cb3 m HM.out at_ a10 o.length p10)
            clear hes
            refine hK.out _ _ (hbT) (fun hHeld => ?_)
            clear hK K
            try simp only [Act.put, List.setIfInBounds_toArray, List.set_cons_zero, List.set_cons_succ, List.getElem_toArray, List.getElem_cons_zero, List.getElem_cons_succ]
            clear hbT
            refine wpAnyH_take (i := 11) (v := .agg es.toArray) rfl (by kernel_rfl) (by kernel_rfl) (by kernel_rfl) (fun _ _ _ h => h) (yields_build9 (by rfl) 56 #[(0, .tmp 20), (1, .tmp 21), (2, .tmp 24)] rfl #[(0, .agg (sgC (.slice (some ⟨gb3, 0, none⟩) n cb3) m).toArray), (1, .int .i64 at_), (2, .slice a10 o.length p10)] (by first | rfl | simp [Act.eval]) _ HEB.out) hHeld ?_
            try simp only [Act.put, List.setIfInBounds_toArray, List.set_cons_zero, List.set_cons_succ, List.getElem_toArray, List.getElem_cons_zero, List.getElem_cons_succ]
            refine wpAnyH_ready (rs := [12]) (by kernel_rfl) (by simp) ?_
            refine AllReadyH.cons rfl (fun K hK => ?_) (AllReadyH.nil)
            obtain ⟨E, hE⟩ : ∃ g, u_4.heap.size = g := ⟨_, rfl⟩
            refine Eq.mpr (if_pos (by rfl)) ?_
            refine wp_alloc_blk 56 rfl _ HZ.out E hE ?_
            intro u_5 hB12 hb12 hs12
            have eT : L + 4 ≤ E := by have := hHeld.size; omega
            have hbT := HB.above hHeld (w'' := u_5) (hb12.mono eT)
            replace HI := hid (HI.out.new12 (w' := u_5) (g := E) (ob := .cells zs.toArray 56) (fun k hk => hb12.block k (by omega)) hB12 (by omega))
            clear hB12 hb12 hs12 hE
            refine hK.out _ _ (hbT) (fun hHeld => ?_)
            clear hK K
            try simp only [Act.put, List.setIfInBounds_toArray, List.set_cons_zero, List.set_cons_succ, List.getElem_toArray, List.getElem_cons_zero, List.getElem_cons_succ]
            clear hbT
            refine wpAnyH_ready (rs := [13]) (by kernel_rfl) (by simp) ?_
            refine AllReadyH.cons rfl (fun K hK => ?_) (AllReadyH.nil)
            have HEL := hid (show es.length = 99 by rw [← HES.out]; exact En.len HOK.out)
            have HEO := hid (show ∀ v ∈ es, v.oneCell' = true by rw [← HES.out]; exact En.one rfl rfl)
            have hBE : Blk u_5 56 E zs := HI.out.re
            refine Eq.mpr (if_pos (by rfl)) ?_
            refine wp_store_list 56 _ _ rfl E 0 es rfl rfl (hBE.there (by rw [HEL.out, HZL.out]; omega)) (by rw [HEL.out]; exact HIE.out) HEO.out ?_
            intro u_6 hw13
            have hB13 : Blk u_6 56 E es := by
              rw [hw13]
              have h3 := Blk.setCells es [] zs [] (o := 0) (by simpa using hBE) (by rw [HZL.out, HEL.out]) rfl
              simpa using h3
            have hbT := HB.above hHeld (w'' := u_6) (by rw [hw13]; exact below_setCells eT _ _ (Below.refl _ _))
            have hI := HI.out.set12 (w' := u_6) (ob' := .cells es.toArray 56) (fun k hk hne => by rw [hw13]; exact setCells_heap hne es 0 _) hB13
            have HFIN := hid (show EntryAt L w [(40, L + 2, cs), (26, L + 1, ps), (35, L, ks)] at_ m o body n (.pointer (some ⟨E, 0, none⟩)) u_6 from ⟨E, gb3, cb3, .slice a10 o.length p10, rfl, hbT, ⟨HOK.out, by rw [HES.out]; exact hB13⟩, FO.out _ hI.rb, FC.out _ hI.rc, eT, gT3, hI.be, fun k hk => by obtain ⟨ob, rfl⟩ := HBK.out k hk; exact hI.ceo _ rfl _ rfl⟩)
            clear hw13 hBE hB13 hI
            refine hK.out _ _ (hbT) (fun hHeld => ?_)
            clear hK K
            try simp only [Act.put, List.setIfInBounds_toArray, List.set_cons_zero, List.set_cons_succ, List.getElem_toArray, List.getElem_cons_zero, List.getElem_cons_succ]
            clear hbT
            refine wpAnyH_done (by kernel_rfl) ?_ _
            go_wp2_with fail
            go_meet
            exact HFIN.out
          · obtain ⟨E, hE⟩ : ∃ g, u_3.heap.size = g := ⟨_, rfl⟩
            refine Eq.mpr (if_pos (by rfl)) ?_
            refine wp_alloc_blk 56 rfl _ HZ.out E hE ?_
            intro u_4 hB12 hb12 hs12
            have eT : L + 4 ≤ E := by have := hHeld.size; omega
            have hbT := HB.above hHeld (w'' := u_4) (hb12.mono eT)
            replace HI := hid (HI.out.new12 (w' := u_4) (g := E) (ob := .cells zs.toArray 56) (fun k hk => hb12.block k (by omega)) hB12 (by omega))
            clear hB12 hb12 hs12 hE
            refine hK.out _ _ (hbT) (fun hHeld => ?_)
            clear hK K
            try simp only [Act.put, List.setIfInBounds_toArray, List.set_cons_zero, List.set_cons_succ, List.getElem_toArray, List.getElem_cons_zero, List.getElem_cons_succ]
            clear hbT
            refine wpAnyH_ready (rs := [10]) (by kernel_rfl) (by simp) ?_
            refine AllReadyH.cons rfl (fun K hK => ?_) (AllReadyH.nil)
            refine Eq.mpr (if_pos (by rfl)) ?_
            refine wp_append_c9 _ _ rfl (L + 4) (.slice (some ⟨gc, 0, none⟩) 0 0) [] rfl (FC.out _ HI.out.rc) hHeld.size ov o rfl (HV.out.later (by rw [hL]; exact hHeld.bel)) (by have := HF.out.1; simp; omega) ?_
            intro v10 u_5 hH10 hB10 hkp hkq
            rw [List.nil_append] at hH10
            have hbT := HB.above hHeld (w'' := u_5) hB10
            obtain ⟨c10, hc10, hd10, FC10⟩ := hH10.opt9
            replace HI := hid (HI.out.set8 (w' := u_5) (c' := c10) (fun k hk hne => hkp k hk (by intro e; injection e with e; exact hne e.symm)) (fun x hx => by rcases hkq _ (hc10 x hx).2 with h | h; injection h with h; exact Or.inl h.symm; exact Or.inr h) (fun x hx => (hc10 x hx).1))
            obtain ⟨a10, p10, rfl⟩ := hH10.form
            have HBK := hid hd10
            replace FC := hid FC10
            clear hH10 hB10 hkp hkq FC10
            obtain ⟨es, hes⟩ : ∃ es, (⟨m, at_, List.replicate 32 0, List.replicate 32 0⟩ : En).cells (.slice (some ⟨gb3, 0, none⟩) n cb3) (.slice a10 o.length p10) = es := ⟨_, rfl⟩
            have HES := hid hes
            have HEB := hid (show ∀ wx, (Instr.build 56 #[(0, .agg (sgC (.slice (some ⟨gb3, 0, none⟩) n cb3) m).toArray), (1, .int .i64 at_), (2, .slice a10 o.length p10)]).run Tryd.prog wx = .ok (.agg es.toArray) wx from fun wx => by rw [← hes]; exact run_entry9 wx _ n cb3 m HM.out at_ a10 o.length p10)
            clear hes
            refine hK.out _ _ (hbT) (fun hHeld => ?_)
            clear hK K
            try simp only [Act.put, List.setIfInBounds_toArray, List.set_cons_zero, List.set_cons_succ, List.getElem_toArray, List.getElem_cons_zero, List.getElem_cons_succ]
            clear hbT
            refine wpAnyH_take (i := 11) (v := .agg es.toArray) rfl (by kernel_rfl) (by kernel_rfl) (by kernel_rfl) (fun _ _ _ h => h) (yields_build9 (by rfl) 56 #[(0, .tmp 20), (1, .tmp 21), (2, .tmp 24)] rfl #[(0, .agg (sgC (.slice (some ⟨gb3, 0, none⟩) n cb3) m).toArray), (1, .int .i64 at_), (2, .slice a10 o.length p10)] (by first | rfl | simp [Act.eval]) _ HEB.out) hHeld ?_
            try simp only [Act.put, List.setIfInBounds_toArray, List.set_cons_zero, List.set_cons_succ, List.getElem_toArray, List.getElem_cons_zero, List.getElem_cons_succ]
            refine wpAnyH_ready (rs := [13]) (by kernel_rfl) (by simp) ?_
            refine AllReadyH.cons rfl (fun K hK => ?_) (AllReadyH.nil)
            have HEL := hid (show es.length = 99 by rw [← HES.out]; exact En.len HOK.out)
            have HEO := hid (show ∀ v ∈ es, v.oneCell' = true by rw [← HES.out]; exact En.one rfl rfl)
            have hBE : Blk u_5 56 E zs := HI.out.re
            refine Eq.mpr (if_pos (by rfl)) ?_
            refine wp_store_list 56 _ _ rfl E 0 es rfl rfl (hBE.there (by rw [HEL.out, HZL.out]; omega)) (by rw [HEL.out]; exact HIE.out) HEO.out ?_
            intro u_6 hw13
            have hB13 : Blk u_6 56 E es := by
              rw [hw13]
              have h3 := Blk.setCells es [] zs [] (o := 0) (by simpa using hBE) (by rw [HZL.out, HEL.out]) rfl
              simpa using h3
            have hbT := HB.above hHeld (w'' := u_6) (by rw [hw13]; exact below_setCells eT _ _ (Below.refl _ _))
            have hI := HI.out.set12 (w' := u_6) (ob' := .cells es.toArray 56) (fun k hk hne => by rw [hw13]; exact setCells_heap hne es 0 _) hB13
            have HFIN := hid (show EntryAt L w [(40, L + 2, cs), (26, L + 1, ps), (35, L, ks)] at_ m o body n (.pointer (some ⟨E, 0, none⟩)) u_6 from ⟨E, gb3, cb3, .slice a10 o.length p10, rfl, hbT, ⟨HOK.out, by rw [HES.out]; exact hB13⟩, FO.out _ hI.rb, FC.out _ hI.rc, eT, gT3, hI.be, fun k hk => by obtain ⟨ob, rfl⟩ := HBK.out k hk; exact hI.ceo _ rfl _ rfl⟩)
            clear hw13 hBE hB13 hI
            refine hK.out _ _ (hbT) (fun hHeld => ?_)
            clear hK K
            try simp only [Act.put, List.setIfInBounds_toArray, List.set_cons_zero, List.set_cons_succ, List.getElem_toArray, List.getElem_cons_zero, List.getElem_cons_succ]
            clear hbT
            refine wpAnyH_done (by kernel_rfl) ?_ _
            go_wp2_with fail
            go_meet
            exact HFIN.out
        · obtain ⟨E, hE⟩ : ∃ g, u_2.heap.size = g := ⟨_, rfl⟩
          refine Eq.mpr (if_pos (by rfl)) ?_
          refine wp_alloc_blk 56 rfl _ HZ.out E hE ?_
          intro u_3 hB12 hb12 hs12
          have eT : L + 4 ≤ E := by have := hHeld.size; omega
          have hbT := HB.above hHeld (w'' := u_3) (hb12.mono eT)
          replace HI := hid (HI.out.new12 (w' := u_3) (g := E) (ob := .cells zs.toArray 56) (fun k hk => hb12.block k (by omega)) hB12 (by omega))
          clear hB12 hb12 hs12 hE
          refine hK.out _ _ (hbT) (fun hHeld => ?_)
          clear hK K
          try simp only [Act.put, List.setIfInBounds_toArray, List.set_cons_zero, List.set_cons_succ, List.getElem_toArray, List.getElem_cons_zero, List.getElem_cons_succ]
          clear hbT
          refine wpAnyH_ready (rs := [3]) (by kernel_rfl) (by simp) ?_
          refine AllReadyH.cons rfl (fun K hK => ?_) (AllReadyH.nil)
          refine Eq.mpr (if_pos (by rfl)) ?_
          refine wp_append_src9 _ _ _ 22 22 rfl 5 i0 (.int .u8 0) Tryd.underlying22 hi hz0 hz1 hz2 rfl gb 0 0 [] rfl (FO.out _ HI.out.rb) _ n (B body) rfl (Src.ofBytes _ Tryd.underlying22 HN.out (HRD.out.later (by rw [hL]; exact hHeld.bel))) (by omega) ?_
          intro gb3 cb3 u_4 hG3
          rw [Nat.zero_add n, List.nil_append] at hG3
          rw [Nat.zero_add n]
          have hbT := HB.above hHeld (w'' := u_4) (hG3.below (Below.refl _ _) gT)
          obtain ⟨ob3, ho3, FO3⟩ := hG3.own.obj9
          replace HI := hid (HI.out.set0 (w' := u_4) (fun k hk hne => hG3.grown.block k hk (by intro e; injection e with e; exact hne e.symm)) (by rcases hG3.blk with ⟨h, _⟩ | h; exact Or.inl h; exact Or.inr h) ho3)
          have gT3 : L + 4 ≤ gb3 := by
            rcases hG3.blk with ⟨h, _⟩ | h
            · omega
            · have := hHeld.size; omega
          replace FO := hid FO3
          clear hG3 ho3 FO3
          refine hK.out _ _ (hbT) (fun hHeld => ?_)
          clear hK K
          try simp only [Act.put, List.setIfInBounds_toArray, List.set_cons_zero, List.set_cons_succ, List.getElem_toArray, List.getElem_cons_zero, List.getElem_cons_succ]
          clear hbT
          refine wpAnyH_take (i := 6) (v := .agg (sgC (.slice (some ⟨gb3, 0, none⟩) n cb3) m).toArray) rfl (by kernel_rfl) (by kernel_rfl) (by kernel_rfl) (fun _ _ _ h => h) (yields_build9 (by rfl) 40 #[(0, .tmp 17), (1, .tmp 19)] rfl #[(0, .slice (some ⟨gb3, 0, none⟩) n cb3), (1, .agg ms.toArray)] (by first | rfl | simp [Act.eval]) _ (fun w => by rw [← HMS.out]; exact run_signed w _ n cb3 m HM.out)) hHeld ?_
          try simp only [Act.put, List.setIfInBounds_toArray, List.set_cons_zero, List.set_cons_succ, List.getElem_toArray, List.getElem_cons_zero, List.getElem_cons_succ]
          refine wpAnyH_ready (rs := [10]) (by kernel_rfl) (by simp) ?_
          refine AllReadyH.cons rfl (fun K hK => ?_) (AllReadyH.nil)
          refine Eq.mpr (if_pos (by rfl)) ?_
          refine wp_append_c9 _ _ rfl (L + 4) (.slice (some ⟨gc, 0, none⟩) 0 0) [] rfl (FC.out _ HI.out.rc) hHeld.size ov o rfl (HV.out.later (by rw [hL]; exact hHeld.bel)) (by have := HF.out.1; simp; omega) ?_
          intro v10 u_5 hH10 hB10 hkp hkq
          rw [List.nil_append] at hH10
          have hbT := HB.above hHeld (w'' := u_5) hB10
          obtain ⟨c10, hc10, hd10, FC10⟩ := hH10.opt9
          replace HI := hid (HI.out.set8 (w' := u_5) (c' := c10) (fun k hk hne => hkp k hk (by intro e; injection e with e; exact hne e.symm)) (fun x hx => by rcases hkq _ (hc10 x hx).2 with h | h; injection h with h; exact Or.inl h.symm; exact Or.inr h) (fun x hx => (hc10 x hx).1))
          obtain ⟨a10, p10, rfl⟩ := hH10.form
          have HBK := hid hd10
          replace FC := hid FC10
          clear hH10 hB10 hkp hkq FC10
          obtain ⟨es, hes⟩ : ∃ es, (⟨m, at_, List.replicate 32 0, List.replicate 32 0⟩ : En).cells (.slice (some ⟨gb3, 0, none⟩) n cb3) (.slice a10 o.length p10) = es := ⟨_, rfl⟩
          have HES := hid hes
          have HEB := hid (show ∀ wx, (Instr.build 56 #[(0, .agg (sgC (.slice (some ⟨gb3, 0, none⟩) n cb3) m).toArray), (1, .int .i64 at_), (2, .slice a10 o.length p10)]).run Tryd.prog wx = .ok (.agg es.toArray) wx from fun wx => by rw [← hes]; exact run_entry9 wx _ n cb3 m HM.out at_ a10 o.length p10)
          clear hes
          refine hK.out _ _ (hbT) (fun hHeld => ?_)
          clear hK K
          try simp only [Act.put, List.setIfInBounds_toArray, List.set_cons_zero, List.set_cons_succ, List.getElem_toArray, List.getElem_cons_zero, List.getElem_cons_succ]
          clear hbT
          refine wpAnyH_take (i := 11) (v := .agg es.toArray) rfl (by kernel_rfl) (by kernel_rfl) (by kernel_rfl) (fun _ _ _ h => h) (yields_build9 (by rfl) 56 #[(0, .tmp 20), (1, .tmp 21), (2, .tmp 24)] rfl #[(0, .agg (sgC (.slice (some ⟨gb3, 0, none⟩) n cb3) m).toArray), (1, .int .i64 at_), (2, .slice a10 o.length p10)] (by first | rfl | simp [Act.eval]) _ HEB.out) hHeld ?_
          try simp only [Act.put, List.setIfInBounds_toArray, List.set_cons_zero, List.set_cons_succ, List.getElem_toArray, List.getElem_cons_zero, List.getElem_cons_succ]
          refine wpAnyH_ready (rs := [13]) (by kernel_rfl) (by simp) ?_
          refine AllReadyH.cons rfl (fun K hK => ?_) (AllReadyH.nil)
          have HEL := hid (show es.length = 99 by rw [← HES.out]; exact En.len HOK.out)
          have HEO := hid (show ∀ v ∈ es, v.oneCell' = true by rw [← HES.out]; exact En.one rfl rfl)
          have hBE : Blk u_5 56 E zs := HI.out.re
          refine Eq.mpr (if_pos (by rfl)) ?_
          refine wp_store_list 56 _ _ rfl E 0 es rfl rfl (hBE.there (by rw [HEL.out, HZL.out]; omega)) (by rw [HEL.out]; exact HIE.out) HEO.out ?_
          intro u_6 hw13
          have hB13 : Blk u_6 56 E es := by
            rw [hw13]
            have h3 := Blk.setCells es [] zs [] (o := 0) (by simpa using hBE) (by rw [HZL.out, HEL.out]) rfl
            simpa using h3
          have hbT := HB.above hHeld (w'' := u_6) (by rw [hw13]; exact below_setCells eT _ _ (Below.refl _ _))
          have hI := HI.out.set12 (w' := u_6) (ob' := .cells es.toArray 56) (fun k hk hne => by rw [hw13]; exact setCells_heap hne es 0 _) hB13
          have HFIN := hid (show EntryAt L w [(40, L + 2, cs), (26, L + 1, ps), (35, L, ks)] at_ m o body n (.pointer (some ⟨E, 0, none⟩)) u_6 from ⟨E, gb3, cb3, .slice a10 o.length p10, rfl, hbT, ⟨HOK.out, by rw [HES.out]; exact hB13⟩, FO.out _ hI.rb, FC.out _ hI.rc, eT, gT3, hI.be, fun k hk => by obtain ⟨ob, rfl⟩ := HBK.out k hk; exact hI.ceo _ rfl _ rfl⟩)
          clear hw13 hBE hB13 hI
          refine hK.out _ _ (hbT) (fun hHeld => ?_)
          clear hK K
          try simp only [Act.put, List.setIfInBounds_toArray, List.set_cons_zero, List.set_cons_succ, List.getElem_toArray, List.getElem_cons_zero, List.getElem_cons_succ]
          clear hbT
          refine wpAnyH_done (by kernel_rfl) ?_ _
          go_wp2_with fail
          go_meet
          exact HFIN.out
      · obtain ⟨E, hE⟩ : ∃ g, u_1.heap.size = g := ⟨_, rfl⟩
        refine Eq.mpr (if_pos (by rfl)) ?_
        refine wp_alloc_blk 56 rfl _ HZ.out E hE ?_
        intro u_2 hB12 hb12 hs12
        have eT : L + 4 ≤ E := by have := hHeld.size; omega
        have hbT := HB.above hHeld (w'' := u_2) (hb12.mono eT)
        replace HI := hid (HI.out.new12 (w' := u_2) (g := E) (ob := .cells zs.toArray 56) (fun k hk => hb12.block k (by omega)) hB12 (by omega))
        clear hB12 hb12 hs12 hE
        refine hK.out _ _ (hbT) (fun hHeld => ?_)
        clear hK K
        try simp only [Act.put, List.setIfInBounds_toArray, List.set_cons_zero, List.set_cons_succ, List.getElem_toArray, List.getElem_cons_zero, List.getElem_cons_succ]
        clear hbT
        refine wpAnyH_ready (rs := [3, 8]) (by kernel_rfl) (by simp) ?_
        refine AllReadyH.cons rfl (fun K hK => ?_) (AllReadyH.cons rfl (fun K hK => ?_) (AllReadyH.nil))
        · refine Eq.mpr (if_pos (by rfl)) ?_
          refine wp_append_src9 _ _ _ 22 22 rfl 5 i0 (.int .u8 0) Tryd.underlying22 hi hz0 hz1 hz2 rfl gb 0 0 [] rfl (FO.out _ HI.out.rb) _ n (B body) rfl (Src.ofBytes _ Tryd.underlying22 HN.out (HRD.out.later (by rw [hL]; exact hHeld.bel))) (by omega) ?_
          intro gb3 cb3 u_3 hG3
          rw [Nat.zero_add n, List.nil_append] at hG3
          rw [Nat.zero_add n]
          have hbT := HB.above hHeld (w'' := u_3) (hG3.below (Below.refl _ _) gT)
          obtain ⟨ob3, ho3, FO3⟩ := hG3.own.obj9
          replace HI := hid (HI.out.set0 (w' := u_3) (fun k hk hne => hG3.grown.block k hk (by intro e; injection e with e; exact hne e.symm)) (by rcases hG3.blk with ⟨h, _⟩ | h; exact Or.inl h; exact Or.inr h) ho3)
          have gT3 : L + 4 ≤ gb3 := by
            rcases hG3.blk with ⟨h, _⟩ | h
            · omega
            · have := hHeld.size; omega
          replace FO := hid FO3
          clear hG3 ho3 FO3
          refine hK.out _ _ (hbT) (fun hHeld => ?_)
          clear hK K
          try simp only [Act.put, List.setIfInBounds_toArray, List.set_cons_zero, List.set_cons_succ, List.getElem_toArray, List.getElem_cons_zero, List.getElem_cons_succ]
          clear hbT
          refine wpAnyH_take (i := 6) (v := .agg (sgC (.slice (some ⟨gb3, 0, none⟩) n cb3) m).toArray) rfl (by kernel_rfl) (by kernel_rfl) (by kernel_rfl) (fun _ _ _ h => h) (yields_build9 (by rfl) 40 #[(0, .tmp 17), (1, .tmp 19)] rfl #[(0, .slice (some ⟨gb3, 0, none⟩) n cb3), (1, .agg ms.toArray)] (by first | rfl | simp [Act.eval]) _ (fun w => by rw [← HMS.out]; exact run_signed w _ n cb3 m HM.out)) hHeld ?_
          try simp only [Act.put, List.setIfInBounds_toArray, List.set_cons_zero, List.set_cons_succ, List.getElem_toArray, List.getElem_cons_zero, List.getElem_cons_succ]
          refine wpAnyH_ready (rs := [8]) (by kernel_rfl) (by simp) ?_
          refine AllReadyH.cons rfl (fun K hK => ?_) (AllReadyH.nil)
          go_simp
          obtain ⟨gc, hgc⟩ : ∃ g, u_3.heap.size = g := ⟨_, rfl⟩
          obtain ⟨u_4, hw1⟩ : ∃ u, u_3.alloc (.cells #[] 62) = u := ⟨_, rfl⟩
          have hbT := HB.above hHeld (w'' := u_4) (by rw [← hw1]; exact (Below.refl _ _).alloc hHeld.size _)
          replace HI := hid (HI.out.new8 (w' := u_4) (g := gc) (ob := .cells #[] 62) (fun k hk => by rw [← hw1]; exact Below.heap_alloc _ _ _ hk) (by rw [← hw1, ← hgc]; exact heap_alloc_new _ _) (by omega))
          have cT : L + 4 ≤ gc := by have := hHeld.size; omega
          have FC := hid (fun (w' : World) (h : ∀ x ∈ (some (gc, Obj.cells #[] 62) : Option (Nat × Obj)), w'.heap[x.1]? = some x.2) => (show HasC w' (L + 4) (.slice (some ⟨gc, 0, none⟩) 0 0) [] from empty9 (h _ rfl) cT))
          rw [hw1, hgc]
          clear hw1 hgc
          refine hK.out _ _ (hbT) (fun hHeld => ?_)
          clear hK K
          try simp only [Act.put, List.setIfInBounds_toArray, List.set_cons_zero, List.set_cons_succ, List.getElem_toArray, List.getElem_cons_zero, List.getElem_cons_succ]
          clear hbT
          refine wpAnyH_ready (rs := [10]) (by kernel_rfl) (by simp) ?_
          refine AllReadyH.cons rfl (fun K hK => ?_) (AllReadyH.nil)
          refine Eq.mpr (if_pos (by rfl)) ?_
          refine wp_append_c9 _ _ rfl (L + 4) (.slice (some ⟨gc, 0, none⟩) 0 0) [] rfl (FC.out _ HI.out.rc) hHeld.size ov o rfl (HV.out.later (by rw [hL]; exact hHeld.bel)) (by have := HF.out.1; simp; omega) ?_
          intro v10 u_5 hH10 hB10 hkp hkq
          rw [List.nil_append] at hH10
          have hbT := HB.above hHeld (w'' := u_5) hB10
          obtain ⟨c10, hc10, hd10, FC10⟩ := hH10.opt9
          replace HI := hid (HI.out.set8 (w' := u_5) (c' := c10) (fun k hk hne => hkp k hk (by intro e; injection e with e; exact hne e.symm)) (fun x hx => by rcases hkq _ (hc10 x hx).2 with h | h; injection h with h; exact Or.inl h.symm; exact Or.inr h) (fun x hx => (hc10 x hx).1))
          obtain ⟨a10, p10, rfl⟩ := hH10.form
          have HBK := hid hd10
          replace FC := hid FC10
          clear hH10 hB10 hkp hkq FC10
          obtain ⟨es, hes⟩ : ∃ es, (⟨m, at_, List.replicate 32 0, List.replicate 32 0⟩ : En).cells (.slice (some ⟨gb3, 0, none⟩) n cb3) (.slice a10 o.length p10) = es := ⟨_, rfl⟩
          have HES := hid hes
          have HEB := hid (show ∀ wx, (Instr.build 56 #[(0, .agg (sgC (.slice (some ⟨gb3, 0, none⟩) n cb3) m).toArray), (1, .int .i64 at_), (2, .slice a10 o.length p10)]).run Tryd.prog wx = .ok (.agg es.toArray) wx from fun wx => by rw [← hes]; exact run_entry9 wx _ n cb3 m HM.out at_ a10 o.length p10)
          clear hes
          refine hK.out _ _ (hbT) (fun hHeld => ?_)
          clear hK K
          try simp only [Act.put, List.setIfInBounds_toArray, List.set_cons_zero, List.set_cons_succ, List.getElem_toArray, List.getElem_cons_zero, List.getElem_cons_succ]
          clear hbT
          refine wpAnyH_take (i := 11) (v := .agg es.toArray) rfl (by kernel_rfl) (by kernel_rfl) (by kernel_rfl) (fun _ _ _ h => h) (yields_build9 (by rfl) 56 #[(0, .tmp 20), (1, .tmp 21), (2, .tmp 24)] rfl #[(0, .agg (sgC (.slice (some ⟨gb3, 0, none⟩) n cb3) m).toArray), (1, .int .i64 at_), (2, .slice a10 o.length p10)] (by first | rfl | simp [Act.eval]) _ HEB.out) hHeld ?_
          try simp only [Act.put, List.setIfInBounds_toArray, List.set_cons_zero, List.set_cons_succ, List.getElem_toArray, List.getElem_cons_zero, List.getElem_cons_succ]
          refine wpAnyH_ready (rs := [13]) (by kernel_rfl) (by simp) ?_
          refine AllReadyH.cons rfl (fun K hK => ?_) (AllReadyH.nil)
          have HEL := hid (show es.length = 99 by rw [← HES.out]; exact En.len HOK.out)
          have HEO := hid (show ∀ v ∈ es, v.oneCell' = true by rw [← HES.out]; exact En.one rfl rfl)
          have hBE : Blk u_5 56 E zs := HI.out.re
          refine Eq.mpr (if_pos (by rfl)) ?_
          refine wp_store_list 56 _ _ rfl E 0 es rfl rfl (hBE.there (by rw [HEL.out, HZL.out]; omega)) (by rw [HEL.out]; exact HIE.out) HEO.out ?_
          intro u_6 hw13
          have hB13 : Blk u_6 56 E es := by
            rw [hw13]
            have h3 := Blk.setCells es [] zs [] (o := 0) (by simpa using hBE) (by rw [HZL.out, HEL.out]) rfl
            simpa using h3
          have hbT := HB.above hHeld (w'' := u_6) (by rw [hw13]; exact below_setCells eT _ _ (Below.refl _ _))
          have hI := HI.out.set12 (w' := u_6) (ob' := .cells es.toArray 56) (fun k hk hne => by rw [hw13]; exact setCells_heap hne es 0 _) hB13
          have HFIN := hid (show EntryAt L w [(40, L + 2, cs), (26, L + 1, ps), (35, L, ks)] at_ m o body n (.pointer (some ⟨E, 0, none⟩)) u_6 from ⟨E, gb3, cb3, .slice a10 o.length p10, rfl, hbT, ⟨HOK.out, by rw [HES.out]; exact hB13⟩, FO.out _ hI.rb, FC.out _ hI.rc, eT, gT3, hI.be, fun k hk => by obtain ⟨ob, rfl⟩ := HBK.out k hk; exact hI.ceo _ rfl _ rfl⟩)
          clear hw13 hBE hB13 hI
          refine hK.out _ _ (hbT) (fun hHeld => ?_)
          clear hK K
          try simp only [Act.put, List.setIfInBounds_toArray, List.set_cons_zero, List.set_cons_succ, List.getElem_toArray, List.getElem_cons_zero, List.getElem_cons_succ]
          clear hbT
          refine wpAnyH_done (by kernel_rfl) ?_ _
          go_wp2_with fail
          go_meet
          exact HFIN.out
        · go_simp
          obtain ⟨gc, hgc⟩ : ∃ g, u_2.heap.size = g := ⟨_, rfl⟩
          obtain ⟨u_3, hw1⟩ : ∃ u, u_2.alloc (.cells #[] 62) = u := ⟨_, rfl⟩
          have hbT := HB.above hHeld (w'' := u_3) (by rw [← hw1]; exact (Below.refl _ _).alloc hHeld.size _)
          replace HI := hid (HI.out.new8 (w' := u_3) (g := gc) (ob := .cells #[] 62) (fun k hk => by rw [← hw1]; exact Below.heap_alloc _ _ _ hk) (by rw [← hw1, ← hgc]; exact heap_alloc_new _ _) (by omega))
          have cT : L + 4 ≤ gc := by have := hHeld.size; omega
          have FC := hid (fun (w' : World) (h : ∀ x ∈ (some (gc, Obj.cells #[] 62) : Option (Nat × Obj)), w'.heap[x.1]? = some x.2) => (show HasC w' (L + 4) (.slice (some ⟨gc, 0, none⟩) 0 0) [] from empty9 (h _ rfl) cT))
          rw [hw1, hgc]
          clear hw1 hgc
          refine hK.out _ _ (hbT) (fun hHeld => ?_)
          clear hK K
          try simp only [Act.put, List.setIfInBounds_toArray, List.set_cons_zero, List.set_cons_succ, List.getElem_toArray, List.getElem_cons_zero, List.getElem_cons_succ]
          clear hbT
          refine wpAnyH_ready (rs := [3]) (by kernel_rfl) (by simp) ?_
          refine AllReadyH.cons rfl (fun K hK => ?_) (AllReadyH.nil)
          refine Eq.mpr (if_pos (by rfl)) ?_
          refine wp_append_src9 _ _ _ 22 22 rfl 5 i0 (.int .u8 0) Tryd.underlying22 hi hz0 hz1 hz2 rfl gb 0 0 [] rfl (FO.out _ HI.out.rb) _ n (B body) rfl (Src.ofBytes _ Tryd.underlying22 HN.out (HRD.out.later (by rw [hL]; exact hHeld.bel))) (by omega) ?_
          intro gb3 cb3 u_4 hG3
          rw [Nat.zero_add n, List.nil_append] at hG3
          rw [Nat.zero_add n]
          have hbT := HB.above hHeld (w'' := u_4) (hG3.below (Below.refl _ _) gT)
          obtain ⟨ob3, ho3, FO3⟩ := hG3.own.obj9
          replace HI := hid (HI.out.set0 (w' := u_4) (fun k hk hne => hG3.grown.block k hk (by intro e; injection e with e; exact hne e.symm)) (by rcases hG3.blk with ⟨h, _⟩ | h; exact Or.inl h; exact Or.inr h) ho3)
          have gT3 : L + 4 ≤ gb3 := by
            rcases hG3.blk with ⟨h, _⟩ | h
            · omega
            · have := hHeld.size; omega
          replace FO := hid FO3
          clear hG3 ho3 FO3
          refine hK.out _ _ (hbT) (fun hHeld => ?_)
          clear hK K
          try simp only [Act.put, List.setIfInBounds_toArray, List.set_cons_zero, List.set_cons_succ, List.getElem_toArray, List.getElem_cons_zero, List.getElem_cons_succ]
          clear hbT
          refine wpAnyH_take (i := 6) (v := .agg (sgC (.slice (some ⟨gb3, 0, none⟩) n cb3) m).toArray) rfl (by kernel_rfl) (by kernel_rfl) (by kernel_rfl) (fun _ _ _ h => h) (yields_build9 (by rfl) 40 #[(0, .tmp 17), (1, .tmp 19)] rfl #[(0, .slice (some ⟨gb3, 0, none⟩) n cb3), (1, .agg ms.toArray)] (by first | rfl | simp [Act.eval]) _ (fun w => by rw [← HMS.out]; exact run_signed w _ n cb3 m HM.out)) hHeld ?_
          try simp only [Act.put, List.setIfInBounds_toArray, List.set_cons_zero, List.set_cons_succ, List.getElem_toArray, List.getElem_cons_zero, List.getElem_cons_succ]
          refine wpAnyH_ready (rs := [10]) (by kernel_rfl) (by simp) ?_
          refine AllReadyH.cons rfl (fun K hK => ?_) (AllReadyH.nil)
          refine Eq.mpr (if_pos (by rfl)) ?_
          refine wp_append_c9 _ _ rfl (L + 4) (.slice (some ⟨gc, 0, none⟩) 0 0) [] rfl (FC.out _ HI.out.rc) hHeld.size ov o rfl (HV.out.later (by rw [hL]; exact hHeld.bel)) (by have := HF.out.1; simp; omega) ?_
          intro v10 u_5 hH10 hB10 hkp hkq
          rw [List.nil_append] at hH10
          have hbT := HB.above hHeld (w'' := u_5) hB10
          obtain ⟨c10, hc10, hd10, FC10⟩ := hH10.opt9
          replace HI := hid (HI.out.set8 (w' := u_5) (c' := c10) (fun k hk hne => hkp k hk (by intro e; injection e with e; exact hne e.symm)) (fun x hx => by rcases hkq _ (hc10 x hx).2 with h | h; injection h with h; exact Or.inl h.symm; exact Or.inr h) (fun x hx => (hc10 x hx).1))
          obtain ⟨a10, p10, rfl⟩ := hH10.form
          have HBK := hid hd10
          replace FC := hid FC10
          clear hH10 hB10 hkp hkq FC10
          obtain ⟨es, hes⟩ : ∃ es, (⟨m, at_, List.replicate 32 0, List.replicate 32 0⟩ : En).cells (.slice (some ⟨gb3, 0, none⟩) n cb3) (.slice a10 o.length p10) = es := ⟨_, rfl⟩
          have HES := hid hes
          have HEB := hid (show ∀ wx, (Instr.build 56 #[(0, .agg (sgC (.slice (some ⟨gb3, 0, none⟩) n cb3) m).toArray), (1, .int .i64 at_), (2, .slice a10 o.length p10)]).run Tryd.prog wx = .ok (.agg es.toArray) wx from fun wx => by rw [← hes]; exact run_entry9 wx _ n cb3 m HM.out at_ a10 o.length p10)
          clear hes
          refine hK.out _ _ (hbT) (fun hHeld => ?_)
          clear hK K
          try simp only [Act.put, List.setIfInBounds_toArray, List.set_cons_zero, List.set_cons_succ, List.getElem_toArray, List.getElem_cons_zero, List.getElem_cons_succ]
          clear hbT
          refine wpAnyH_take (i := 11) (v := .agg es.toArray) rfl (by kernel_rfl) (by kernel_rfl) (by kernel_rfl) (fun _ _ _ h => h) (yields_build9 (by rfl) 56 #[(0, .tmp 20), (1, .tmp 21), (2, .tmp 24)] rfl #[(0, .agg (sgC (.slice (some ⟨gb3, 0, none⟩) n cb3) m).toArray), (1, .int .i64 at_), (2, .slice a10 o.length p10)] (by first | rfl | simp [Act.eval]) _ HEB.out) hHeld ?_
          try simp only [Act.put, List.setIfInBounds_toArray, List.set_cons_zero, List.set_cons_succ, List.getElem_toArray, List.getElem_cons_zero, List.getElem_cons_succ]
          refine wpAnyH_ready (rs := [13]) (by kernel_rfl) (by simp) ?_
          refine AllReadyH.cons rfl (fun K hK => ?_) (AllReadyH.nil)
          have HEL := hid (show es.length = 99 by rw [← HES.out]; exact En.len HOK.out)
          have HEO := hid (show ∀ v ∈ es, v.oneCell' = true by rw [← HES.out]; exact En.one rfl rfl)
          have hBE : Blk u_5 56 E zs := HI.out.re
          refine Eq.mpr (if_pos (by rfl)) ?_
          refine wp_store_list 56 _ _ rfl E 0 es rfl rfl (hBE.there (by rw [HEL.out, HZL.out]; omega)) (by rw [HEL.out]; exact HIE.out) HEO.out ?_
          intro u_6 hw13
          have hB13 : Blk u_6 56 E es := by
            rw [hw13]
            have h3 := Blk.setCells es [] zs [] (o := 0) (by simpa using hBE) (by rw [HZL.out, HEL.out]) rfl
            simpa using h3
          have hbT := HB.above hHeld (w'' := u_6) (by rw [hw13]; exact below_setCells eT _ _ (Below.refl _ _))
          have hI := HI.out.set12 (w' := u_6) (ob' := .cells es.toArray 56) (fun k hk hne => by rw [hw13]; exact setCells_heap hne es 0 _) hB13
          have HFIN := hid (show EntryAt L w [(40, L + 2, cs), (26, L + 1, ps), (35, L, ks)] at_ m o body n (.pointer (some ⟨E, 0, none⟩)) u_6 from ⟨E, gb3, cb3, .slice a10 o.length p10, rfl, hbT, ⟨HOK.out, by rw [HES.out]; exact hB13⟩, FO.out _ hI.rb, FC.out _ hI.rc, eT, gT3, hI.be, fun k hk => by obtain ⟨ob, rfl⟩ := HBK.out k hk; exact hI.ceo _ rfl _ rfl⟩)
          clear hw13 hBE hB13 hI
          refine hK.out _ _ (hbT) (fun hHeld => ?_)
          clear hK K
          try simp only [Act.put, List.setIfInBounds_toArray, List.set_cons_zero, List.set_cons_succ, List.getElem_toArray, List.getElem_cons_zero, List.getElem_cons_succ]
          clear hbT
          refine wpAnyH_done (by kernel_rfl) ?_ _
          go_wp2_with fail
          go_meet
          exact HFIN.out
    · go_simp
      obtain ⟨gc, hgc⟩ : ∃ g, wd.heap.size = g := ⟨_, rfl⟩
      obtain ⟨u_1, hw1⟩ : ∃ u, wd.alloc (.cells #[] 62) = u := ⟨_, rfl⟩
      have hbT := HB.above hHeld (w'' := u_1) (by rw [← hw1]; exact (Below.refl _ _).alloc hHeld.size _)
      replace HI := hid (HI.out.new8 (w' := u_1) (g := gc) (ob := .cells #[] 62) (fun k hk => by rw [← hw1]; exact Below.heap_alloc _ _ _ hk) (by rw [← hw1, ← hgc]; exact heap_alloc_new _ _) (by omega))
      have cT : L + 4 ≤ gc := by have := hHeld.size; omega
      have FC := hid (fun (w' : World) (h : ∀ x ∈ (some (gc, Obj.cells #[] 62) : Option (Nat × Obj)), w'.heap[x.1]? = some x.2) => (show HasC w' (L + 4) (.slice (some ⟨gc, 0, none⟩) 0 0) [] from empty9 (h _ rfl) cT))
      rw [hw1, hgc]
      clear hw1 hgc
      refine hK.out _ _ (hbT) (fun hHeld => ?_)
      clear hK K
      try simp only [Act.put, List.setIfInBounds_toArray, List.set_cons_zero, List.set_cons_succ, List.getElem_toArray, List.getElem_cons_zero, List.getElem_cons_succ]
      clear hbT
      refine wpAnyH_ready (rs := [0, 12]) (by kernel_rfl) (by simp) ?_
      refine AllReadyH.cons rfl (fun K hK => ?_) (AllReadyH.cons rfl (fun K hK => ?_) (AllReadyH.nil))
      · go_simp
        obtain ⟨gb, hgb⟩ : ∃ g, u_1.heap.size = g := ⟨_, rfl⟩
        obtain ⟨u_2, hw1⟩ : ∃ u, u_1.alloc (.cells #[] 5) = u := ⟨_, rfl⟩
        have hbT := HB.above hHeld (w'' := u_2) (by rw [← hw1]; exact (Below.refl _ _).alloc hHeld.size _)
        replace HI := hid (HI.out.new0 (w' := u_2) (g := gb) (ob := .cells #[] 5) (fun k hk => by rw [← hw1]; exact Below.heap_alloc _ _ _ hk) (by rw [← hw1, ← hgb]; exact heap_alloc_new _ _) (by omega))
        have gT : L + 4 ≤ gb := by have := hHeld.size; omega
        have FO := hid (fun (w' : World) (h : w'.heap[gb]? = some (.cells #[] 5)) => (show Owns w' 5 gb 0 0 [] from ⟨rfl, Nat.le_refl _, Nat.zero_le _, #[], h, rfl, rfl⟩))
        rw [hw1, hgb]
        clear hw1 hgb
        refine hK.out _ _ (hbT) (fun hHeld => ?_)
        clear hK K
        try simp only [Act.put, List.setIfInBounds_toArray, List.set_cons_zero, List.set_cons_succ, List.getElem_toArray, List.getElem_cons_zero, List.getElem_cons_succ]
        clear hbT
        refine wpAnyH_ready (rs := [3, 12]) (by kernel_rfl) (by simp) ?_
        refine AllReadyH.cons rfl (fun K hK => ?_) (AllReadyH.cons rfl (fun K hK => ?_) (AllReadyH.nil))
        · refine Eq.mpr (if_pos (by rfl)) ?_
          refine wp_append_src9 _ _ _ 22 22 rfl 5 i0 (.int .u8 0) Tryd.underlying22 hi hz0 hz1 hz2 rfl gb 0 0 [] rfl (FO.out _ HI.out.rb) _ n (B body) rfl (Src.ofBytes _ Tryd.underlying22 HN.out (HRD.out.later (by rw [hL]; exact hHeld.bel))) (by omega) ?_
          intro gb3 cb3 u_3 hG3
          rw [Nat.zero_add n, List.nil_append] at hG3
          rw [Nat.zero_add n]
          have hbT := HB.above hHeld (w'' := u_3) (hG3.below (Below.refl _ _) gT)
          obtain ⟨ob3, ho3, FO3⟩ := hG3.own.obj9
          replace HI := hid (HI.out.set0 (w' := u_3) (fun k hk hne => hG3.grown.block k hk (by intro e; injection e with e; exact hne e.symm)) (by rcases hG3.blk with ⟨h, _⟩ | h; exact Or.inl h; exact Or.inr h) ho3)
          have gT3 : L + 4 ≤ gb3 := by
            rcases hG3.blk with ⟨h, _⟩ | h
            · omega
            · have := hHeld.size; omega
          replace FO := hid FO3
          clear hG3 ho3 FO3
          refine hK.out _ _ (hbT) (fun hHeld => ?_)
          clear hK K
          try simp only [Act.put, List.setIfInBounds_toArray, List.set_cons_zero, List.set_cons_succ, List.getElem_toArray, List.getElem_cons_zero, List.getElem_cons_succ]
          clear hbT
          refine wpAnyH_take (i := 6) (v := .agg (sgC (.slice (some ⟨gb3, 0, none⟩) n cb3) m).toArray) rfl (by kernel_rfl) (by kernel_rfl) (by kernel_rfl) (fun _ _ _ h => h) (yields_build9 (by rfl) 40 #[(0, .tmp 17), (1, .tmp 19)] rfl #[(0, .slice (some ⟨gb3, 0, none⟩) n cb3), (1, .agg ms.toArray)] (by first | rfl | simp [Act.eval]) _ (fun w => by rw [← HMS.out]; exact run_signed w _ n cb3 m HM.out)) hHeld ?_
          try simp only [Act.put, List.setIfInBounds_toArray, List.set_cons_zero, List.set_cons_succ, List.getElem_toArray, List.getElem_cons_zero, List.getElem_cons_succ]
          refine wpAnyH_ready (rs := [10, 12]) (by kernel_rfl) (by simp) ?_
          refine AllReadyH.cons rfl (fun K hK => ?_) (AllReadyH.cons rfl (fun K hK => ?_) (AllReadyH.nil))
          · refine Eq.mpr (if_pos (by rfl)) ?_
            refine wp_append_c9 _ _ rfl (L + 4) (.slice (some ⟨gc, 0, none⟩) 0 0) [] rfl (FC.out _ HI.out.rc) hHeld.size ov o rfl (HV.out.later (by rw [hL]; exact hHeld.bel)) (by have := HF.out.1; simp; omega) ?_
            intro v10 u_4 hH10 hB10 hkp hkq
            rw [List.nil_append] at hH10
            have hbT := HB.above hHeld (w'' := u_4) hB10
            obtain ⟨c10, hc10, hd10, FC10⟩ := hH10.opt9
            replace HI := hid (HI.out.set8 (w' := u_4) (c' := c10) (fun k hk hne => hkp k hk (by intro e; injection e with e; exact hne e.symm)) (fun x hx => by rcases hkq _ (hc10 x hx).2 with h | h; injection h with h; exact Or.inl h.symm; exact Or.inr h) (fun x hx => (hc10 x hx).1))
            obtain ⟨a10, p10, rfl⟩ := hH10.form
            have HBK := hid hd10
            replace FC := hid FC10
            clear hH10 hB10 hkp hkq FC10
            obtain ⟨es, hes⟩ : ∃ es, (⟨m, at_, List.replicate 32 0, List.replicate 32 0⟩ : En).cells (.slice (some ⟨gb3, 0, none⟩) n cb3) (.slice a10 o.length p10) = es := ⟨_, rfl⟩
            have HES := hid hes
            have HEB := hid (show ∀ wx, (Instr.build 56 #[(0, .agg (sgC (.slice (some ⟨gb3, 0, none⟩) n cb3) m).toArray), (1, .int .i64 at_), (2, .slice a10 o.length p10)]).run Tryd.prog wx = .ok (.agg es.toArray) wx from fun wx => by rw [← hes]; exact run_entry9 wx _ n cb3 m HM.out at_ a10 o.length p10)
            clear hes
            refine hK.out _ _ (hbT) (fun hHeld => ?_)
            clear hK K
            try simp only [Act.put, List.setIfInBounds_toArray, List.set_cons_zero, List.set_cons_succ, List.getElem_toArray, List.getElem_cons_zero, List.getElem_cons_succ]
            clear hbT
            refine wpAnyH_take (i := 11) (v := .agg es.toArray) rfl (by kernel_rfl) (by kernel_rfl) (by kernel_rfl) (fun _ _ _ h => h) (yields_build9 (by rfl) 56 #[(0, .tmp 20), (1, .tmp 21), (2, .tmp 24)] rfl #[(0, .agg (sgC (.slice (some ⟨gb3, 0, none⟩) n cb3) m).toArray), (1, .int .i64 at_), (2, .slice a10 o.length p10)] (by first | rfl | simp [Act.eval]) _ HEB.out) hHeld ?_
            try simp only [Act.put, List.setIfInBounds_toArray, List.set_cons_zero, List.set_cons_succ, List.getElem_toArray, List.getElem_cons_zero, List.getElem_cons_succ]
            refine wpAnyH_ready (rs := [12]) (by kernel_rfl) (by simp) ?_
            refine AllReadyH.cons rfl (fun K hK => ?_) (AllReadyH.nil)
            obtain ⟨E, hE⟩ : ∃ g, u_4.heap.size = g := ⟨_, rfl⟩
            refine Eq.mpr (if_pos (by rfl)) ?_
            refine wp_alloc_blk 56 rfl _ HZ.out E hE ?_
            intro u_5 hB12 hb12 hs12
            have eT : L + 4 ≤ E := by have := hHeld.size; omega
            have hbT := HB.above hHeld (w'' := u_5) (hb12.mono eT)
            replace HI := hid (HI.out.new12 (w' := u_5) (g := E) (ob := .cells zs.toArray 56) (fun k hk => hb12.block k (by omega)) hB12 (by omega))
            clear hB12 hb12 hs12 hE
            refine hK.out _ _ (hbT) (fun hHeld => ?_)
            clear hK K
            try simp only [Act.put, List.setIfInBounds_toArray, List.set_cons_zero, List.set_cons_succ, List.getElem_toArray, List.getElem_cons_zero, List.getElem_cons_succ]
            clear hbT
            refine wpAnyH_ready (rs := [13]) (by kernel_rfl) (by simp) ?_
            refine AllReadyH.cons rfl (fun K hK => ?_) (AllReadyH.nil)
            have HEL := hid (show es.length = 99 by rw [← HES.out]; exact En.len HOK.out)
            have HEO := hid (show ∀ v ∈ es, v.oneCell' = true by rw [← HES.out]; exact En.one rfl rfl)
            have hBE : Blk u_5 56 E zs := HI.out.re
            refine Eq.mpr (if_pos (by rfl)) ?_
            refine wp_store_list 56 _ _ rfl E 0 es rfl rfl (hBE.there (by rw [HEL.out, HZL.out]; omega)) (by rw [HEL.out]; exact HIE.out) HEO.out ?_
            intro u_6 hw13
            have hB13 : Blk u_6 56 E es := by
              rw [hw13]
              have h3 := Blk.setCells es [] zs [] (o := 0) (by simpa using hBE) (by rw [HZL.out, HEL.out]) rfl
              simpa using h3
            have hbT := HB.above hHeld (w'' := u_6) (by rw [hw13]; exact below_setCells eT _ _ (Below.refl _ _))
            have hI := HI.out.set12 (w' := u_6) (ob' := .cells es.toArray 56) (fun k hk hne => by rw [hw13]; exact setCells_heap hne es 0 _) hB13
            have HFIN := hid (show EntryAt L w [(40, L + 2, cs), (26, L + 1, ps), (35, L, ks)] at_ m o body n (.pointer (some ⟨E, 0, none⟩)) u_6 from ⟨E, gb3, cb3, .slice a10 o.length p10, rfl, hbT, ⟨HOK.out, by rw [HES.out]; exact hB13⟩, FO.out _ hI.rb, FC.out _ hI.rc, eT, gT3, hI.be, fun k hk => by obtain ⟨ob, rfl⟩ := HBK.out k hk; exact hI.ceo _ rfl _ rfl⟩)
            clear hw13 hBE hB13 hI
            refine hK.out _ _ (hbT) (fun hHeld => ?_)
            clear hK K
            try simp only [Act.put, List.setIfInBounds_toArray, List.set_cons_zero, List.set_cons_succ, List.getElem_toArray, List.getElem_cons_zero, List.getElem_cons_succ]
            clear hbT
            refine wpAnyH_done (by kernel_rfl) ?_ _
            go_wp2_with fail
            go_meet
            exact HFIN.out
          · obtain ⟨E, hE⟩ : ∃ g, u_3.heap.size = g := ⟨_, rfl⟩
            refine Eq.mpr (if_pos (by rfl)) ?_
            refine wp_alloc_blk 56 rfl _ HZ.out E hE ?_
            intro u_4 hB12 hb12 hs12
            have eT : L + 4 ≤ E := by have := hHeld.size; omega
            have hbT := HB.above hHeld (w'' := u_4) (hb12.mono eT)
            replace HI := hid (HI.out.new12 (w' := u_4) (g := E) (ob := .cells zs.toArray 56) (fun k hk => hb12.block k (by omega)) hB12 (by omega))
            clear hB12 hb12 hs12 hE
            refine hK.out _ _ (hbT) (fun hHeld => ?_)
            clear hK K
            try simp only [Act.put, List.setIfInBounds_toArray, List.set_cons_zero, List.set_cons_succ, List.getElem_toArray, List.getElem_cons_zero, List.getElem_cons_succ]
            clear hbT
            refine wpAnyH_ready (rs := [10]) (by kernel_rfl) (by simp) ?_
            refine AllReadyH.cons rfl (fun K hK => ?_) (AllReadyH.nil)
            refine Eq.mpr (if_pos (by rfl)) ?_
            refine wp_append_c9 _ _ rfl (L + 4) (.slice (some ⟨gc, 0, none⟩) 0 0) [] rfl (FC.out _ HI.out.rc) hHeld.size ov o rfl (HV.out.later (by rw [hL]; exact hHeld.bel)) (by have := HF.out.1; simp; omega) ?_
            intro v10 u_5 hH10 hB10 hkp hkq
            rw [List.nil_append] at hH10
            have hbT := HB.above hHeld (w'' := u_5) hB10
            obtain ⟨c10, hc10, hd10, FC10⟩ := hH10.opt9
            replace HI := hid (HI.out.set8 (w' := u_5) (c' := c10) (fun k hk hne => hkp k hk (by intro e; injection e with e; exact hne e.symm)) (fun x hx => by rcases hkq _ (hc10 x hx).2 with h | h; injection h with h; exact Or.inl h.symm; exact Or.inr h) (fun x hx => (hc10 x hx).1))
            obtain ⟨a10, p10, rfl⟩ := hH10.form
            have HBK := hid hd10
            replace FC := hid FC10
            clear hH10 hB10 hkp hkq FC10
            obtain ⟨es, hes⟩ : ∃ es, (⟨m, at_, List.replicate 32 0, List.replicate 32 0⟩ : En).cells (.slice (some ⟨gb3, 0, none⟩) n cb3) (.slice a10 o.length p10) = es := ⟨_, rfl⟩
            have HES := hid hes
            have HEB := hid (show ∀ wx, (Instr.build 56 #[(0, .agg (sgC (.slice (some ⟨gb3, 0, none⟩) n cb3) m).toArray), (1, .int .i64 at_), (2, .slice a10 o.length p10)]).run Tryd.prog wx = .ok (.agg es.toArray) wx from fun wx => by rw [← hes]; exact run_entry9 wx _ n cb3 m HM.out at_ a10 o.length p10)
            clear hes
            refine hK.out _ _ (hbT) (fun hHeld => ?_)
            clear hK K
            try simp only [Act.put, List.setIfInBounds_toArray, List.set_cons_zero, List.set_cons_succ, List.getElem_toArray, List.getElem_cons_zero, List.getElem_cons_succ]
            clear hbT
            refine wpAnyH_take (i := 11) (v := .agg es.toArray) rfl (by kernel_rfl) (by kernel_rfl) (by kernel_rfl) (fun _ _ _ h => h) (yields_build9 (by rfl) 56 #[(0, .tmp 20), (1, .tmp 21), (2, .tmp 24)] rfl #[(0, .agg (sgC (.slice (some ⟨gb3, 0, none⟩) n cb3) m).toArray), (1, .int .i64 at_), (2, .slice a10 o.length p10)] (by first | rfl | simp [Act.eval]) _ HEB.out) hHeld ?_
            try simp only [Act.put, List.setIfInBounds_toArray, List.set_cons_zero, List.set_cons_succ, List.getElem_toArray, List.getElem_cons_zero, List.getElem_cons_succ]
            refine wpAnyH_ready (rs := [13]) (by kernel_rfl) (by simp) ?_
            refine AllReadyH.cons rfl (fun K hK => ?_) (AllReadyH.nil)
            have HEL := hid (show es.length = 99 by rw [← HES.out]; exact En.len HOK.out)
            have HEO := hid (show ∀ v ∈ es, v.oneCell' = true by rw [← HES.out]; exact En.one rfl rfl)
            have hBE : Blk u_5 56 E zs := HI.out.re
            refine Eq.mpr (if_pos (by rfl)) ?_
            refine wp_store_list 56 _ _ rfl E 0 es rfl rfl (hBE.there (by rw [HEL.out, HZL.out]; omega)) (by rw [HEL.out]; exact HIE.out) HEO.out ?_
            intro u_6 hw13
            have hB13 : Blk u_6 56 E es := by
              rw [hw13]
              have h3 := Blk.setCells es [] zs [] (o := 0) (by simpa using hBE) (by rw [HZL.out, HEL.out]) rfl
              simpa using h3
            have hbT := HB.above hHeld (w'' := u_6) (by rw [hw13]; exact below_setCells eT _ _ (Below.refl _ _))
            have hI := HI.out.set12 (w' := u_6) (ob' := .cells es.toArray 56) (fun k hk hne => by rw [hw13]; exact setCells_heap hne es 0 _) hB13
            have HFIN := hid (show EntryAt L w [(40, L + 2, cs), (26, L + 1, ps), (35, L, ks)] at_ m o body n (.pointer (some ⟨E, 0, none⟩)) u_6 from ⟨E, gb3, cb3, .slice a10 o.length p10, rfl, hbT, ⟨HOK.out, by rw [HES.out]; exact hB13⟩, FO.out _ hI.rb, FC.out _ hI.rc, eT, gT3, hI.be, fun k hk => by obtain ⟨ob, rfl⟩ := HBK.out k hk; exact hI.ceo _ rfl _ rfl⟩)
            clear hw13 hBE hB13 hI
            refine hK.out _ _ (hbT) (fun hHeld => ?_)
            clear hK K
            try simp only [Act.put, List.setIfInBounds_toArray, List.set_cons_zero, List.set_cons_succ, List.getElem_toArray, List.getElem_cons_zero, List.getElem_cons_succ]
            clear hbT
            refine wpAnyH_done (by kernel_rfl) ?_ _
            go_wp2_with fail
            go_meet
            exact HFIN.out
        · obtain ⟨E, hE⟩ : ∃ g, u_2.heap.size = g := ⟨_, rfl⟩
          refine Eq.mpr (if_pos (by rfl)) ?_
          refine wp_alloc_blk 56 rfl _ HZ.out E hE ?_
          intro u_3 hB12 hb12 hs12
          have eT : L + 4 ≤ E := by have := hHeld.size; omega
          have hbT := HB.above hHeld (w'' := u_3) (hb12.mono eT)
          replace HI := hid (HI.out.new12 (w' := u_3) (g := E) (ob := .cells zs.toArray 56) (fun k hk => hb12.block k (by omega)) hB12 (by omega))
          clear hB12 hb12 hs12 hE
          refine hK.out _ _ (hbT) (fun hHeld => ?_)
          clear hK K
          try simp only [Act.put, List.setIfInBounds_toArray, List.set_cons_zero, List.set_cons_succ, List.getElem_toArray, List.getElem_cons_zero, List.getElem_cons_succ]
          clear hbT
          refine wpAnyH_ready (rs := [3]) (by kernel_rfl) (by simp) ?_
          refine AllReadyH.cons rfl (fun K hK => ?_) (AllReadyH.nil)
          refine Eq.mpr (if_pos (by rfl)) ?_
          refine wp_append_src9 _ _ _ 22 22 rfl 5 i0 (.int .u8 0) Tryd.underlying22 hi hz0 hz1 hz2 rfl gb 0 0 [] rfl (FO.out _ HI.out.rb) _ n (B body) rfl (Src.ofBytes _ Tryd.underlying22 HN.out (HRD.out.later (by rw [hL]; exact hHeld.bel))) (by omega) ?_
          intro gb3 cb3 u_4 hG3
          rw [Nat.zero_add n, List.nil_append] at hG3
          rw [Nat.zero_add n]
          have hbT := HB.above hHeld (w'' := u_4) (hG3.below (Below.refl _ _) gT)
          obtain ⟨ob3, ho3, FO3⟩ := hG3.own.obj9
          replace HI := hid (HI.out.set0 (w' := u_4) (fun k hk hne => hG3.grown.block k hk (by intro e; injection e with e; exact hne e.symm)) (by rcases hG3.blk with ⟨h, _⟩ | h; exact Or.inl h; exact Or.inr h) ho3)
          have gT3 : L + 4 ≤ gb3 := by
            rcases hG3.blk with ⟨h, _⟩ | h
            · omega
            · have := hHeld.size; omega
          replace FO := hid FO3
          clear hG3 ho3 FO3
          refine hK.out _ _ (hbT) (fun hHeld => ?_)
          clear hK K
          try simp only [Act.put, List.setIfInBounds_toArray, List.set_cons_zero, List.set_cons_succ, List.getElem_toArray, List.getElem_cons_zero, List.getElem_cons_succ]
          clear hbT
          refine wpAnyH_take (i := 6) (v := .agg (sgC (.slice (some ⟨gb3, 0, none⟩) n cb3) m).toArray) rfl (by kernel_rfl) (by kernel_rfl) (by kernel_rfl) (fun _ _ _ h => h) (yields_build9 (by rfl) 40 #[(0, .tmp 17), (1, .tmp 19)] rfl #[(0, .slice (some ⟨gb3, 0, none⟩) n cb3), (1, .agg ms.toArray)] (by first | rfl | simp [Act.eval]) _ (fun w => by rw [← HMS.out]; exact run_signed w _ n cb3 m HM.out)) hHeld ?_
          try simp only [Act.put, List.setIfInBounds_toArray, List.set_cons_zero, List.set_cons_succ, List.getElem_toArray, List.getElem_cons_zero, List.getElem_cons_succ]
          refine wpAnyH_ready (rs := [10]) (by kernel_rfl) (by simp) ?_
          refine AllReadyH.cons rfl (fun K hK => ?_) (AllReadyH.nil)
          refine Eq.mpr (if_pos (by rfl)) ?_
          refine wp_append_c9 _ _ rfl (L + 4) (.slice (some ⟨gc, 0, none⟩) 0 0) [] rfl (FC.out _ HI.out.rc) hHeld.size ov o rfl (HV.out.later (by rw [hL]; exact hHeld.bel)) (by have := HF.out.1; simp; omega) ?_
          intro v10 u_5 hH10 hB10 hkp hkq
          rw [List.nil_append] at hH10
          have hbT := HB.above hHeld (w'' := u_5) hB10
          obtain ⟨c10, hc10, hd10, FC10⟩ := hH10.opt9
          replace HI := hid (HI.out.set8 (w' := u_5) (c' := c10) (fun k hk hne => hkp k hk (by intro e; injection e with e; exact hne e.symm)) (fun x hx => by rcases hkq _ (hc10 x hx).2 with h | h; injection h with h; exact Or.inl h.symm; exact Or.inr h) (fun x hx => (hc10 x hx).1))
          obtain ⟨a10, p10, rfl⟩ := hH10.form
          have HBK := hid hd10
          replace FC := hid FC10
          clear hH10 hB10 hkp hkq FC10
          obtain ⟨es, hes⟩ : ∃ es, (⟨m, at_, List.replicate 32 0, List.replicate 32 0⟩ : En).cells (.slice (some ⟨gb3, 0, none⟩) n cb3) (.slice a10 o.length p10) = es := ⟨_, rfl⟩
          have HES := hid hes
          have HEB := hid (show ∀ wx, (Instr.build 56 #[(0, .agg (sgC (.slice (some ⟨gb3, 0, none⟩) n cb3) m).toArray), (1, .int .i64 at_), (2, .slice a10 o.length p10)]).run Tryd.prog wx = .ok (.agg es.toArray) wx from fun wx => by rw [← hes]; exact run_entry9 wx _ n cb3 m HM.out at_ a10 o.length p10)
          clear hes
          refine hK.out _ _ (hbT) (fun hHeld => ?_)
          clear hK K
          try simp only [Act.put, List.setIfInBounds_toArray, List.set_cons_zero, List.set_cons_succ, List.getElem_toArray, List.getElem_cons_zero, List.getElem_cons_succ]
          clear hbT
          refine wpAnyH_take (i := 11) (v := .agg es.toArray) rfl (by kernel_rfl) (by kernel_rfl) (by kernel_rfl) (fun _ _ _ h => h) (yields_build9 (by rfl) 56 #[(0, .tmp 20), (1, .tmp 21), (2, .tmp 24)] rfl #[(0, .agg (sgC (.slice (some ⟨gb3, 0, none⟩) n cb3) m).toArray), (1, .int .i64 at_), (2, .slice a10 o.length p10)] (by first | rfl | simp [Act.eval]) _ HEB.out) hHeld ?_
          try simp only [Act.put, List.setIfInBounds_toArray, List.set_cons_zero, List.set_cons_succ, List.getElem_toArray, List.getElem_cons_zero, List.getElem_cons_succ]
          refine wpAnyH_ready (rs := [13]) (by kernel_rfl) (by simp) ?_
          refine AllReadyH.cons rfl (fun K hK => ?_) (AllReadyH.nil)
          have HEL := hid (show es.length = 99 by rw [← HES.out]; exact En.len HOK.out)
          have HEO := hid (show ∀ v ∈ es, v.oneCell' = true by rw [← HES.out]; exact En.one rfl rfl)
          have hBE : Blk u_5 56 E zs := HI.out.re
          refine Eq.mpr (if_pos (by rfl)) ?_
          refine wp_store_list 56 _ _ rfl E 0 es rfl rfl (hBE.there (by rw [HEL.out, HZL.out]; omega)) (by rw [HEL.out]; exact HIE.out) HEO.out ?_
          intro u_6 hw13
          have hB13 : Blk u_6 56 E es := by
            rw [hw13]
            have h3 := Blk.setCells es [] zs [] (o := 0) (by simpa using hBE) (by rw [HZL.out, HEL.out]) rfl
            simpa using h3
          have hbT := HB.above hHeld (w'' := u_6) (by rw [hw13]; exact below_setCells eT _ _ (Below.refl _ _))
          have hI := HI.out.set12 (w' := u_6) (ob' := .cells es.toArray 56) (fun k hk hne => by rw [hw13]; exact setCells_heap hne es 0 _) hB13
          have HFIN := hid (show EntryAt L w [(40, L + 2, cs), (26, L + 1, ps), (35, L, ks)] at_ m o body n (.pointer (some ⟨E, 0, none⟩)) u_6 from ⟨E, gb3, cb3, .slice a10 o.length p10, rfl, hbT, ⟨HOK.out, by rw [HES.out]; exact hB13⟩, FO.out _ hI.rb, FC.out _ hI.rc, eT, gT3, hI.be, fun k hk => by obtain ⟨ob, rfl⟩ := HBK.out k hk; exact hI.ceo _ rfl _ rfl⟩)
          clear hw13 hBE hB13 hI
          refine hK.out _ _ (hbT) (fun hHeld => ?_)
          clear hK K
          try simp only [Act.put, List.setIfInBounds_toArray, List.set_cons_zero, List.set_cons_succ, List.getElem_toArray, List.getElem_cons_zero, List.getElem_cons_succ]
          clear hbT
          refine wpAnyH_done (by kernel_rfl) ?_ _
          go_wp2_with fail
          go_meet
          exact HFIN.out
      · obtain ⟨E, hE⟩ : ∃ g, u_1.heap.size = g := ⟨_, rfl⟩
        refine Eq.mpr (if_pos (by rfl)) ?_
        refine wp_alloc_blk 56 rfl _ HZ.out E hE ?_
        intro u_2 hB12 hb12 hs12
        have eT : L + 4 ≤ E := by have := hHeld.size; omega
        have hbT := HB.above hHeld (w'' := u_2) (hb12.mono eT)
        replace HI := hid (HI.out.new12 (w' := u_2) (g := E) (ob := .cells zs.toArray 56) (fun k hk => hb12.block k (by omega)) hB12 (by omega))
        clear hB12 hb12 hs12 hE
        refine hK.out _ _ (hbT) (fun hHeld => ?_)
        clear hK K
        try simp only [Act.put, List.setIfInBounds_toArray, List.set_cons_zero, List.set_cons_succ, List.getElem_toArray, List.getElem_cons_zero, List.getElem_cons_succ]
        clear hbT
        refine wpAnyH_ready (rs := [0]) (by kernel_rfl) (by simp) ?_
        refine AllReadyH.cons rfl (fun K hK => ?_) (AllReadyH.nil)
        go_simp
        obtain ⟨gb, hgb⟩ : ∃ g, u_2.heap.size = g := ⟨_, rfl⟩
        obtain ⟨u_3, hw1⟩ : ∃ u, u_2.alloc (.cells #[] 5) = u := ⟨_, rfl⟩
        have hbT := HB.above hHeld (w'' := u_3) (by rw [← hw1]; exact (Below.refl _ _).alloc hHeld.size _)
        replace HI := hid (HI.out.new0 (w' := u_3) (g := gb) (ob := .cells #[] 5) (fun k hk => by rw [← hw1]; exact Below.heap_alloc _ _ _ hk) (by rw [← hw1, ← hgb]; exact heap_alloc_new _ _) (by omega))
        have gT : L + 4 ≤ gb := by have := hHeld.size; omega
        have FO := hid (fun (w' : World) (h : w'.heap[gb]? = some (.cells #[] 5)) => (show Owns w' 5 gb 0 0 [] from ⟨rfl, Nat.le_refl _, Nat.zero_le _, #[], h, rfl, rfl⟩))
        rw [hw1, hgb]
        clear hw1 hgb
        refine hK.out _ _ (hbT) (fun hHeld => ?_)
        clear hK K
        try simp only [Act.put, List.setIfInBounds_toArray, List.set_cons_zero, List.set_cons_succ, List.getElem_toArray, List.getElem_cons_zero, List.getElem_cons_succ]
        clear hbT
        refine wpAnyH_ready (rs := [3]) (by kernel_rfl) (by simp) ?_
        refine AllReadyH.cons rfl (fun K hK => ?_) (AllReadyH.nil)
        refine Eq.mpr (if_pos (by rfl)) ?_
        refine wp_append_src9 _ _ _ 22 22 rfl 5 i0 (.int .u8 0) Tryd.underlying22 hi hz0 hz1 hz2 rfl gb 0 0 [] rfl (FO.out _ HI.out.rb) _ n (B body) rfl (Src.ofBytes _ Tryd.underlying22 HN.out (HRD.out.later (by rw [hL]; exact hHeld.bel))) (by omega) ?_
        intro gb3 cb3 u_4 hG3
        rw [Nat.zero_add n, List.nil_append] at hG3
        rw [Nat.zero_add n]
        have hbT := HB.above hHeld (w'' := u_4) (hG3.below (Below.refl _ _) gT)
        obtain ⟨ob3, ho3, FO3⟩ := hG3.own.obj9
        replace HI := hid (HI.out.set0 (w' := u_4) (fun k hk hne => hG3.grown.block k hk (by intro e; injection e with e; exact hne e.symm)) (by rcases hG3.blk with ⟨h, _⟩ | h; exact Or.inl h; exact Or.inr h) ho3)
        have gT3 : L + 4 ≤ gb3 := by
          rcases hG3.blk with ⟨h, _⟩ | h
          · omega
          · have := hHeld.size; omega
        replace FO := hid FO3
        clear hG3 ho3 FO3
        refine hK.out _ _ (hbT) (fun hHeld => ?_)
        clear hK K
        try simp only [Act.put, List.setIfInBounds_toArray, List.set_cons_zero, List.set_cons_succ, List.getElem_toArray, List.getElem_cons_zero, List.getElem_cons_succ]
        clear hbT
        refine wpAnyH_take (i := 6) (v := .agg (sgC (.slice (some ⟨gb3, 0, none⟩) n cb3) m).toArray) rfl (by kernel_rfl) (by kernel_rfl) (by kernel_rfl) (fun _ _ _ h => h) (yields_build9 (by rfl) 40 #[(0, .tmp 17), (1, .tmp 19)] rfl #[(0, .slice (some ⟨gb3, 0, none⟩) n cb3), (1, .agg ms.toArray)] (by first | rfl | simp [Act.eval]) _ (fun w => by rw [← HMS.out]; exact run_signed w _ n cb3 m HM.out)) hHeld ?_
        try simp only [Act.put, List.setIfInBounds_toArray, List.set_cons_zero, List.set_cons_succ, List.getElem_toArray, List.getElem_cons_zero, List.getElem_cons_succ]
        refine wpAnyH_ready (rs := [10]) (by kernel_rfl) (by simp) ?_
        refine AllReadyH.cons rfl (fun K hK => ?_) (AllReadyH.nil)
        refine Eq.mpr (if_pos (by rfl)) ?_
        refine wp_append_c9 _ _ rfl (L + 4) (.slice (some ⟨gc, 0, none⟩) 0 0) [] rfl (FC.out _ HI.out.rc) hHeld.size ov o rfl (HV.out.later (by rw [hL]; exact hHeld.bel)) (by have := HF.out.1; simp; omega) ?_
        intro v10 u_5 hH10 hB10 hkp hkq
        rw [List.nil_append] at hH10
        have hbT := HB.above hHeld (w'' := u_5) hB10
        obtain ⟨c10, hc10, hd10, FC10⟩ := hH10.opt9
        replace HI := hid (HI.out.set8 (w' := u_5) (c' := c10) (fun k hk hne => hkp k hk (by intro e; injection e with e; exact hne e.symm)) (fun x hx => by rcases hkq _ (hc10 x hx).2 with h | h; injection h with h; exact Or.inl h.symm; exact Or.inr h) (fun x hx => (hc10 x hx).1))
        obtain ⟨a10, p10, rfl⟩ := hH10.form
        have HBK := hid hd10
        replace FC := hid FC10
        clear hH10 hB10 hkp hkq FC10
        obtain ⟨es, hes⟩ : ∃ es, (⟨m, at_, List.replicate 32 0, List.replicate 32 0⟩ : En).cells (.slice (some ⟨gb3, 0, none⟩) n cb3) (.slice a10 o.length p10) = es := ⟨_, rfl⟩
        have HES := hid hes
        have HEB := hid (show ∀ wx, (Instr.build 56 #[(0, .agg (sgC (.slice (some ⟨gb3, 0, none⟩) n cb3) m).toArray), (1, .int .i64 at_), (2, .slice a10 o.length p10)]).run Tryd.prog wx = .ok (.agg es.toArray) wx from fun wx => by rw [← hes]; exact run_entry9 wx _ n cb3 m HM.out at_ a10 o.length p10)
        clear hes
        refine hK.out _ _ (hbT) (fun hHeld => ?_)
        clear hK K
        try simp only [Act.put, List.setIfInBounds_toArray, List.set_cons_zero, List.set_cons_succ, List.getElem_toArray, List.getElem_cons_zero, List.getElem_cons_succ]
        clear hbT
        refine wpAnyH_take (i := 11) (v := .agg es.toArray) rfl (by kernel_rfl) (by kernel_rfl) (by kernel_rfl) (fun _ _ _ h => h) (yields_build9 (by rfl) 56 #[(0, .tmp 20), (1, .tmp 21), (2, .tmp 24)] rfl #[(0, .agg (sgC (.slice (some ⟨gb3, 0, none⟩) n cb3) m).toArray), (1, .int .i64 at_), (2, .slice a10 o.length p10)] (by first | rfl | simp [Act.eval]) _ HEB.out) hHeld ?_
        try simp only [Act.put, List.setIfInBounds_toArray, List.set_cons_zero, List.set_cons_succ, List.getElem_toArray, List.getElem_cons_zero, List.getElem_cons_succ]
        refine wpAnyH_ready (rs := [13]) (by kernel_rfl) (by simp) ?_
        refine AllReadyH.cons rfl (fun K hK => ?_) (AllReadyH.nil)
        have HEL := hid (show es.length = 99 by rw [← HES.out]; exact En.len HOK.out)
        have HEO := hid (show ∀ v ∈ es, v.oneCell' = true by rw [← HES.out]; exact En.one rfl rfl)
        have hBE : Blk u_5 56 E zs := HI.out.re
        refine Eq.mpr (if_pos (by rfl)) ?_
        refine wp_store_list 56 _ _ rfl E 0 es rfl rfl (hBE.there (by rw [HEL.out, HZL.out]; omega)) (by rw [HEL.out]; exact HIE.out) HEO.out ?_
        intro u_6 hw13
        have hB13 : Blk u_6 56 E es := by
          rw [hw13]
          have h3 := Blk.setCells es [] zs [] (o := 0) (by simpa using hBE) (by rw [HZL.out, HEL.out]) rfl
          simpa using h3
        have hbT := HB.above hHeld (w'' := u_6) (by rw [hw13]; exact below_setCells eT _ _ (Below.refl _ _))
        have hI := HI.out.set12 (w' := u_6) (ob' := .cells es.toArray 56) (fun k hk hne => by rw [hw13]; exact setCells_heap hne es 0 _) hB13
        have HFIN := hid (show EntryAt L w [(40, L + 2, cs), (26, L + 1, ps), (35, L, ks)] at_ m o body n (.pointer (some ⟨E, 0, none⟩)) u_6 from ⟨E, gb3, cb3, .slice a10 o.length p10, rfl, hbT, ⟨HOK.out, by rw [HES.out]; exact hB13⟩, FO.out _ hI.rb, FC.out _ hI.rc, eT, gT3, hI.be, fun k hk => by obtain ⟨ob, rfl⟩ := HBK.out k hk; exact hI.ceo _ rfl _ rfl⟩)
        clear hw13 hBE hB13 hI
        refine hK.out _ _ (hbT) (fun hHeld => ?_)
        clear hK K
        try simp only [Act.put, List.setIfInBounds_toArray, List.set_cons_zero, List.set_cons_succ, List.getElem_toArray, List.getElem_cons_zero, List.getElem_cons_succ]
        clear hbT
        refine wpAnyH_done (by kernel_rfl) ?_ _
        go_wp2_with fail
        go_meet
        exact HFIN.out
    · obtain ⟨E, hE⟩ : ∃ g, wd.heap.size = g := ⟨_, rfl⟩
      refine Eq.mpr (if_pos (by rfl)) ?_
      refine wp_alloc_blk 56 rfl _ HZ.out E hE ?_
      intro u_1 hB12 hb12 hs12
      have eT : L + 4 ≤ E := by have := hHeld.size; omega
      have hbT := HB.above hHeld (w'' := u_1) (hb12.mono eT)
      replace HI := hid (HI.out.new12 (w' := u_1) (g := E) (ob := .cells zs.toArray 56) (fun k hk => hb12.block k (by omega)) hB12 (by omega))
      clear hB12 hb12 hs12 hE
      refine hK.out _ _ (hbT) (fun hHeld => ?_)
      clear hK K
      try simp only [Act.put, List.setIfInBounds_toArray, List.set_cons_zero, List.set_cons_succ, List.getElem_toArray, List.getElem_cons_zero, List.getElem_cons_succ]
      clear hbT
      refine wpAnyH_ready (rs := [0, 8]) (by kernel_rfl) (by simp) ?_
      refine AllReadyH.cons rfl (fun K hK => ?_) (AllReadyH.cons rfl (fun K hK => ?_) (AllReadyH.nil))
      · go_simp
        obtain ⟨gb, hgb⟩ : ∃ g, u_1.heap.size = g := ⟨_, rfl⟩
        obtain ⟨u_2, hw1⟩ : ∃ u, u_1.alloc (.cells #[] 5) = u := ⟨_, rfl⟩
        have hbT := HB.above hHeld (w'' := u_2) (by rw [← hw1]; exact (Below.refl _ _).alloc hHeld.size _)
        replace HI := hid (HI.out.new0 (w' := u_2) (g := gb) (ob := .cells #[] 5) (fun k hk => by rw [← hw1]; exact Below.heap_alloc _ _ _ hk) (by rw [← hw1, ← hgb]; exact heap_alloc_new _ _) (by omega))
        have gT : L + 4 ≤ gb := by have := hHeld.size; omega
        have FO := hid (fun (w' : World) (h : w'.heap[gb]? = some (.cells #[] 5)) => (show Owns w' 5 gb 0 0 [] from ⟨rfl, Nat.le_refl _, Nat.zero_le _, #[], h, rfl, rfl⟩))
        rw [hw1, hgb]
        clear hw1 hgb
        refine hK.out _ _ (hbT) (fun hHeld => ?_)
        clear hK K
        try simp only [Act.put, List.setIfInBounds_toArray, List.set_cons_zero, List.set_cons_succ, List.getElem_toArray, List.getElem_cons_zero, List.getElem_cons_succ]
        clear hbT
        refine wpAnyH_ready (rs := [3, 8]) (by kernel_rfl) (by simp) ?_
        refine AllReadyH.cons rfl (fun K hK => ?_) (AllReadyH.cons rfl (fun K hK => ?_) (AllReadyH.nil))
        · refine Eq.mpr (if_pos (by rfl)) ?_
          refine wp_append_src9 _ _ _ 22 22 rfl 5 i0 (.int .u8 0) Tryd.underlying22 hi hz0 hz1 hz2 rfl gb 0 0 [] rfl (FO.out _ HI.out.rb) _ n (B body) rfl (Src.ofBytes _ Tryd.underlying22 HN.out (HRD.out.later (by rw [hL]; exact hHeld.bel))) (by omega) ?_
          intro gb3 cb3 u_3 hG3
          rw [Nat.zero_add n, List.nil_append] at hG3
          rw [Nat.zero_add n]
          have hbT := HB.above hHeld (w'' := u_3) (hG3.below (Below.refl _ _) gT)
          obtain ⟨ob3, ho3, FO3⟩ := hG3.own.obj9
          replace HI := hid (HI.out.set0 (w' := u_3) (fun k hk hne => hG3.grown.block k hk (by intro e; injection e with e; exact hne e.symm)) (by rcases hG3.blk with ⟨h, _⟩ | h; exact Or.inl h; exact Or.inr h) ho3)
          have gT3 : L + 4 ≤ gb3 := by
            rcases hG3.blk with ⟨h, _⟩ | h
            · omega
            · have := hHeld.size; omega
          replace FO := hid FO3
          clear hG3 ho3 FO3
          refine hK.out _ _ (hbT) (fun hHeld => ?_)
          clear hK K
          try simp only [Act.put, List.setIfInBounds_toArray, List.set_cons_zero, List.set_cons_succ, List.getElem_toArray, List.getElem_cons_zero, List.getElem_cons_succ]
          clear hbT
          refine wpAnyH_take (i := 6) (v := .agg (sgC (.slice (some ⟨gb3, 0, none⟩) n cb3) m).toArray) rfl (by kernel_rfl) (by kernel_rfl) (by kernel_rfl) (fun _ _ _ h => h) (yields_build9 (by rfl) 40 #[(0, .tmp 17), (1, .tmp 19)] rfl #[(0, .slice (some ⟨gb3, 0, none⟩) n cb3), (1, .agg ms.toArray)] (by first | rfl | simp [Act.eval]) _ (fun w => by rw [← HMS.out]; exact run_signed w _ n cb3 m HM.out)) hHeld ?_
          try simp only [Act.put, List.setIfInBounds_toArray, List.set_cons_zero, List.set_cons_succ, List.getElem_toArray, List.getElem_cons_zero, List.getElem_cons_succ]
          refine wpAnyH_ready (rs := [8]) (by kernel_rfl) (by simp) ?_
          refine AllReadyH.cons rfl (fun K hK => ?_) (AllReadyH.nil)
          go_simp
          obtain ⟨gc, hgc⟩ : ∃ g, u_3.heap.size = g := ⟨_, rfl⟩
          obtain ⟨u_4, hw1⟩ : ∃ u, u_3.alloc (.cells #[] 62) = u := ⟨_, rfl⟩
          have hbT := HB.above hHeld (w'' := u_4) (by rw [← hw1]; exact (Below.refl _ _).alloc hHeld.size _)
          replace HI := hid (HI.out.new8 (w' := u_4) (g := gc) (ob := .cells #[] 62) (fun k hk => by rw [← hw1]; exact Below.heap_alloc _ _ _ hk) (by rw [← hw1, ← hgc]; exact heap_alloc_new _ _) (by omega))
          have cT : L + 4 ≤ gc := by have := hHeld.size; omega
          have FC := hid (fun (w' : World) (h : ∀ x ∈ (some (gc, Obj.cells #[] 62) : Option (Nat × Obj)), w'.heap[x.1]? = some x.2) => (show HasC w' (L + 4) (.slice (some ⟨gc, 0, none⟩) 0 0) [] from empty9 (h _ rfl) cT))
          rw [hw1, hgc]
          clear hw1 hgc
          refine hK.out _ _ (hbT) (fun hHeld => ?_)
          clear hK K
          try simp only [Act.put, List.setIfInBounds_toArray, List.set_cons_zero, List.set_cons_succ, List.getElem_toArray, List.getElem_cons_zero, List.getElem_cons_succ]
          clear hbT
          refine wpAnyH_ready (rs := [10]) (by kernel_rfl) (by simp) ?_
          refine AllReadyH.cons rfl (fun K hK => ?_) (AllReadyH.nil)
          refine Eq.mpr (if_pos (by rfl)) ?_
          refine wp_append_c9 _ _ rfl (L + 4) (.slice (some ⟨gc, 0, none⟩) 0 0) [] rfl (FC.out _ HI.out.rc) hHeld.size ov o rfl (HV.out.later (by rw [hL]; exact hHeld.bel)) (by have := HF.out.1; simp; omega) ?_
          intro v10 u_5 hH10 hB10 hkp hkq
          rw [List.nil_append] at hH10
          have hbT := HB.above hHeld (w'' := u_5) hB10
          obtain ⟨c10, hc10, hd10, FC10⟩ := hH10.opt9
          replace HI := hid (HI.out.set8 (w' := u_5) (c' := c10) (fun k hk hne => hkp k hk (by intro e; injection e with e; exact hne e.symm)) (fun x hx => by rcases hkq _ (hc10 x hx).2 with h | h; injection h with h; exact Or.inl h.symm; exact Or.inr h) (fun x hx => (hc10 x hx).1))
          obtain ⟨a10, p10, rfl⟩ := hH10.form
          have HBK := hid hd10
          replace FC := hid FC10
          clear hH10 hB10 hkp hkq FC10
          obtain ⟨es, hes⟩ : ∃ es, (⟨m, at_, List.replicate 32 0, List.replicate 32 0⟩ : En).cells (.slice (some ⟨gb3, 0, none⟩) n cb3) (.slice a10 o.length p10) = es := ⟨_, rfl⟩
          have HES := hid hes
          have HEB := hid (show ∀ wx, (Instr.build 56 #[(0, .agg (sgC (.slice (some ⟨gb3, 0, none⟩) n cb3) m).toArray), (1, .int .i64 at_), (2, .slice a10 o.length p10)]).run Tryd.prog wx = .ok (.agg es.toArray) wx from fun wx => by rw [← hes]; exact run_entry9 wx _ n cb3 m HM.out at_ a10 o.length p10)
          clear hes
          refine hK.out _ _ (hbT) (fun hHeld => ?_)
          clear hK K
          try simp only [Act.put, List.setIfInBounds_toArray, List.set_cons_zero, List.set_cons_succ, List.getElem_toArray, List.getElem_cons_zero, List.getElem_cons_succ]
          clear hbT
          refine wpAnyH_take (i := 11) (v := .agg es.toArray) rfl (by kernel_rfl) (by kernel_rfl) (by kernel_rfl) (fun _ _ _ h => h) (yields_build9 (by rfl) 56 #[(0, .tmp 20), (1, .tmp 21), (2, .tmp 24)] rfl #[(0, .agg (sgC (.slice (some ⟨gb3, 0, none⟩) n cb3) m).toArray), (1, .int .i64 at_), (2, .slice a10 o.length p10)] (by first | rfl | simp [Act.eval]) _ HEB.out) hHeld ?_
          try simp only [Act.put, List.setIfInBounds_toArray, List.set_cons_zero, List.set_cons_succ, List.getElem_toArray, List.getElem_cons_zero, List.getElem_cons_succ]
          refine wpAnyH_ready (rs := [13]) (by kernel_rfl) (by simp) ?_
          refine AllReadyH.cons rfl (fun K hK => ?_) (AllReadyH.nil)
          have HEL := hid (show es.length = 99 by rw [← HES.out]; exact En.len HOK.out)
          have HEO := hid (show ∀ v ∈ es, v.oneCell' = true by rw [← HES.out]; exact En.one rfl rfl)
          have hBE : Blk u_5 56 E zs := HI.out.re
          refine Eq.mpr (if_pos (by rfl)) ?_
          refine wp_store_list 56 _ _ rfl E 0 es rfl rfl (hBE.there (by rw [HEL.out, HZL.out]; omega)) (by rw [HEL.out]; exact HIE.out) HEO.out ?_
          intro u_6 hw13
          have hB13 : Blk u_6 56 E es := by
            rw [hw13]
            have h3 := Blk.setCells es [] zs [] (o := 0) (by simpa using hBE) (by rw [HZL.out, HEL.out]) rfl
            simpa using h3
          have hbT := HB.above hHeld (w'' := u_6) (by rw [hw13]; exact below_setCells eT _ _ (Below.refl _ _))
          have hI := HI.out.set12 (w' := u_6) (ob' := .cells es.toArray 56) (fun k hk hne => by rw [hw13]; exact setCells_heap hne es 0 _) hB13
          have HFIN := hid (show EntryAt L w [(40, L + 2, cs), (26, L + 1, ps), (35, L, ks)] at_ m o body n (.pointer (some ⟨E, 0, none⟩)) u_6 from ⟨E, gb3, cb3, .slice a10 o.length p10, rfl, hbT, ⟨HOK.out, by rw [HES.out]; exact hB13⟩, FO.out _ hI.rb, FC.out _ hI.rc, eT, gT3, hI.be, fun k hk => by obtain ⟨ob, rfl⟩ := HBK.out k hk; exact hI.ceo _ rfl _ rfl⟩)
          clear hw13 hBE hB13 hI
          refine hK.out _ _ (hbT) (fun hHeld => ?_)
          clear hK K
          try simp only [Act.put, List.setIfInBounds_toArray, List.set_cons_zero, List.set_cons_succ, List.getElem_toArray, List.getElem_cons_zero, List.getElem_cons_succ]
          clear hbT
          refine wpAnyH_done (by kernel_rfl) ?_ _
          go_wp2_with fail
          go_meet
          exact HFIN.out
        · go_simp
          obtain ⟨gc, hgc⟩ : ∃ g, u_2.heap.size = g := ⟨_, rfl⟩
          obtain ⟨u_3, hw1⟩ : ∃ u, u_2.alloc (.cells #[] 62) = u := ⟨_, rfl⟩
          have hbT := HB.above hHeld (w'' := u_3) (by rw [← hw1]; exact (Below.refl _ _).alloc hHeld.size _)
          replace HI := hid (HI.out.new8 (w' := u_3) (g := gc) (ob := .cells #[] 62) (fun k hk => by rw [← hw1]; exact Below.heap_alloc _ _ _ hk) (by rw [← hw1, ← hgc]; exact heap_alloc_new _ _) (by omega))
          have cT : L + 4 ≤ gc := by have := hHeld.size; omega
          have FC := hid (fun (w' : World) (h : ∀ x ∈ (some (gc, Obj.cells #[] 62) : Option (Nat × Obj)), w'.heap[x.1]? = some x.2) => (show HasC w' (L + 4) (.slice (some ⟨gc, 0, none⟩) 0 0) [] from empty9 (h _ rfl) cT))
          rw [hw1, hgc]
          clear hw1 hgc
          refine hK.out _ _ (hbT) (fun hHeld => ?_)
          clear hK K
          try simp only [Act.put, List.setIfInBounds_toArray, List.set_cons_zero, List.set_cons_succ, List.getElem_toArray, List.getElem_cons_zero, List.getElem_cons_succ]
          clear hbT
          refine wpAnyH_ready (rs := [3]) (by kernel_rfl) (by simp) ?_
          refine AllReadyH.cons rfl (fun K hK => ?_) (AllReadyH.nil)
          refine Eq.mpr (if_pos (by rfl)) ?_
          refine wp_append_src9 _ _ _ 22 22 rfl 5 i0 (.int .u8 0) Tryd.underlying22 hi hz0 hz1 hz2 rfl gb 0 0 [] rfl (FO.out _ HI.out.rb) _ n (B body) rfl (Src.ofBytes _ Tryd.underlying22 HN.out (HRD.out.later (by rw [hL]; exact hHeld.bel))) (by omega) ?_
          intro gb3 cb3 u_4 hG3
          rw [Nat.zero_add n, List.nil_append] at hG3
          rw [Nat.zero_add n]
          have hbT := HB.above hHeld (w'' := u_4) (hG3.below (Below.refl _ _) gT)
          obtain ⟨ob3, ho3, FO3⟩ := hG3.own.obj9
          replace HI := hid (HI.out.set0 (w' := u_4) (fun k hk hne => hG3.grown.block k hk (by intro e; injection e with e; exact hne e.symm)) (by rcases hG3.blk with ⟨h, _⟩ | h; exact Or.inl h; exact Or.inr h) ho3)
          have gT3 : L + 4 ≤ gb3 := by
            rcases hG3.blk with ⟨h, _⟩ | h
            · omega
            · have := hHeld.size; omega
          replace FO := hid FO3
          clear hG3 ho3 FO3
          refine hK.out _ _ (hbT) (fun hHeld => ?_)
          clear hK K
          try simp only [Act.put, List.setIfInBounds_toArray, List.set_cons_zero, List.set_cons_succ, List.getElem_toArray, List.getElem_cons_zero, List.getElem_cons_succ]
          clear hbT
          refine wpAnyH_take (i := 6) (v := .agg (sgC (.slice (some ⟨gb3, 0, none⟩) n cb3) m).toArray) rfl (by kernel_rfl) (by kernel_rfl) (by kernel_rfl) (fun _ _ _ h => h) (yields_build9 (by rfl) 40 #[(0, .tmp 17), (1, .tmp 19)] rfl #[(0, .slice (some ⟨gb3, 0, none⟩) n cb3), (1, .agg ms.toArray)] (by first | rfl | simp [Act.eval]) _ (fun w => by rw [← HMS.out]; exact run_signed w _ n cb3 m HM.out)) hHeld ?_
          try simp only [Act.put, List.setIfInBounds_toArray, List.set_cons_zero, List.set_cons_succ, List.getElem_toArray, List.getElem_cons_zero, List.getElem_cons_succ]
          refine wpAnyH_ready (rs := [10]) (by kernel_rfl) (by simp) ?_
          refine AllReadyH.cons rfl (fun K hK => ?_) (AllReadyH.nil)
          refine Eq.mpr (if_pos (by rfl)) ?_
          refine wp_append_c9 _ _ rfl (L + 4) (.slice (some ⟨gc, 0, none⟩) 0 0) [] rfl (FC.out _ HI.out.rc) hHeld.size ov o rfl (HV.out.later (by rw [hL]; exact hHeld.bel)) (by have := HF.out.1; simp; omega) ?_
          intro v10 u_5 hH10 hB10 hkp hkq
          rw [List.nil_append] at hH10
          have hbT := HB.above hHeld (w'' := u_5) hB10
          obtain ⟨c10, hc10, hd10, FC10⟩ := hH10.opt9
          replace HI := hid (HI.out.set8 (w' := u_5) (c' := c10) (fun k hk hne => hkp k hk (by intro e; injection e with e; exact hne e.symm)) (fun x hx => by rcases hkq _ (hc10 x hx).2 with h | h; injection h with h; exact Or.inl h.symm; exact Or.inr h) (fun x hx => (hc10 x hx).1))
          obtain ⟨a10, p10, rfl⟩ := hH10.form
          have HBK := hid hd10
          replace FC := hid FC10
          clear hH10 hB10 hkp hkq FC10
          obtain ⟨es, hes⟩ : ∃ es, (⟨m, at_, List.replicate 32 0, List.replicate 32 0⟩ : En).cells (.slice (some ⟨gb3, 0, none⟩) n cb3) (.slice a10 o.length p10) = es := ⟨_, rfl⟩
          have HES := hid hes
          have HEB := hid (show ∀ wx, (Instr.build 56 #[(0, .agg (sgC (.slice (some ⟨gb3, 0, none⟩) n cb3) m).toArray), (1, .int .i64 at_), (2, .slice a10 o.length p10)]).run Tryd.prog wx = .ok (.agg es.toArray) wx from fun wx => by rw [← hes]; exact run_entry9 wx _ n cb3 m HM.out at_ a10 o.length p10)
          clear hes
          refine hK.out _ _ (hbT) (fun hHeld => ?_)
          clear hK K
          try simp only [Act.put, List.setIfInBounds_toArray, List.set_cons_zero, List.set_cons_succ, List.getElem_toArray, List.getElem_cons_zero, List.getElem_cons_succ]
          clear hbT
          refine wpAnyH_take (i := 11) (v := .agg es.toArray) rfl (by kernel_rfl) (by kernel_rfl) (by kernel_rfl) (fun _ _ _ h => h) (yields_build9 (by rfl) 56 #[(0, .tmp 20), (1, .tmp 21), (2, .tmp 24)] rfl #[(0, .agg (sgC (.slice (some ⟨gb3, 0, none⟩) n cb3) m).toArray), (1, .int .i64 at_), (2, .slice a10 o.length p10)] (by first | rfl | simp [Act.eval]) _ HEB.out) hHeld ?_
          try simp only [Act.put, List.setIfInBounds_toArray, List.set_cons_zero, List.set_cons_succ, List.getElem_toArray, List.getElem_cons_zero, List.getElem_cons_succ]
          refine wpAnyH_ready (rs := [13]) (by kernel_rfl) (by simp) ?_
          refine AllReadyH.cons rfl (fun K hK => ?_) (AllReadyH.nil)
          have HEL := hid (show es.length = 99 by rw [← HES.out]; exact En.len HOK.out)
          have HEO := hid (show ∀ v ∈ es, v.oneCell' = true by rw [← HES.out]; exact En.one rfl rfl)
          have hBE : Blk u_5 56 E zs := HI.out.re
          refine Eq.mpr (if_pos (by rfl)) ?_
          refine wp_store_list 56 _ _ rfl E 0 es rfl rfl (hBE.there (by rw [HEL.out, HZL.out]; omega)) (by rw [HEL.out]; exact HIE.out) HEO.out ?_
          intro u_6 hw13
          have hB13 : Blk u_6 56 E es := by
            rw [hw13]
            have h3 := Blk.setCells es [] zs [] (o := 0) (by simpa using hBE) (by rw [HZL.out, HEL.out]) rfl
            simpa using h3
          have hbT := HB.above hHeld (w'' := u_6) (by rw [hw13]; exact below_setCells eT _ _ (Below.refl _ _))
          have hI := HI.out.set12 (w' := u_6) (ob' := .cells es.toArray 56) (fun k hk hne => by rw [hw13]; exact setCells_heap hne es 0 _) hB13
          have HFIN := hid (show EntryAt L w [(40, L + 2, cs), (26, L + 1, ps), (35, L, ks)] at_ m o body n (.pointer (some ⟨E, 0, none⟩)) u_6 from ⟨E, gb3, cb3, .slice a10 o.length p10, rfl, hbT, ⟨HOK.out, by rw [HES.out]; exact hB13⟩, FO.out _ hI.rb, FC.out _ hI.rc, eT, gT3, hI.be, fun k hk => by obtain ⟨ob, rfl⟩ := HBK.out k hk; exact hI.ceo _ rfl _ rfl⟩)
          clear hw13 hBE hB13 hI
          refine hK.out _ _ (hbT) (fun hHeld => ?_)
          clear hK K
          try simp only [Act.put, List.setIfInBounds_toArray, List.set_cons_zero, List.set_cons_succ, List.getElem_toArray, List.getElem_cons_zero, List.getElem_cons_succ]
          clear hbT
          refine wpAnyH_done (by kernel_rfl) ?_ _
          go_wp2_with fail
          go_meet
          exact HFIN.out
      · go_simp
        obtain ⟨gc, hgc⟩ : ∃ g, u_1.heap.size = g := ⟨_, rfl⟩
        obtain ⟨u_2, hw1⟩ : ∃ u, u_1.alloc (.cells #[] 62) = u := ⟨_, rfl⟩
        have hbT := HB.above hHeld (w'' := u_2) (by rw [← hw1]; exact (Below.refl _ _).alloc hHeld.size _)
        replace HI := hid (HI.out.new8 (w' := u_2) (g := gc) (ob := .cells #[] 62) (fun k hk => by rw [← hw1]; exact Below.heap_alloc _ _ _ hk) (by rw [← hw1, ← hgc]; exact heap_alloc_new _ _) (by omega))
        have cT : L + 4 ≤ gc := by have := hHeld.size; omega
        have FC := hid (fun (w' : World) (h : ∀ x ∈ (some (gc, Obj.cells #[] 62) : Option (Nat × Obj)), w'.heap[x.1]? = some x.2) => (show HasC w' (L + 4) (.slice (some ⟨gc, 0, none⟩) 0 0) [] from empty9 (h _ rfl) cT))
        rw [hw1, hgc]
        clear hw1 hgc
        refine hK.out _ _ (hbT) (fun hHeld => ?_)
        clear hK K
        try simp only [Act.put, List.setIfInBounds_toArray, List.set_cons_zero, List.set_cons_succ, List.getElem_toArray, List.getElem_cons_zero, List.getElem_cons_succ]
        clear hbT
        refine wpAnyH_ready (rs := [0]) (by kernel_rfl) (by simp) ?_
        refine AllReadyH.cons rfl (fun K hK => ?_) (AllReadyH.nil)
        go_simp
        obtain ⟨gb, hgb⟩ : ∃ g, u_2.heap.size = g := ⟨_, rfl⟩
        obtain ⟨u_3, hw1⟩ : ∃ u, u_2.alloc (.cells #[] 5) = u := ⟨_, rfl⟩
        have hbT := HB.above hHeld (w'' := u_3) (by rw [← hw1]; exact (Below.refl _ _).alloc hHeld.size _)
        replace HI := hid (HI.out.new0 (w' := u_3) (g := gb) (ob := .cells #[] 5) (fun k hk => by rw [← hw1]; exact Below.heap_alloc _ _ _ hk) (by rw [← hw1, ← hgb]; exact heap_alloc_new _ _) (by omega))
        have gT : L + 4 ≤ gb := by have := hHeld.size; omega
        have FO := hid (fun (w' : World) (h : w'.heap[gb]? = some (.cells #[] 5)) => (show Owns w' 5 gb 0 0 [] from ⟨rfl, Nat.le_refl _, Nat.zero_le _, #[], h, rfl, rfl⟩))
        rw [hw1, hgb]
        clear hw1 hgb
        refine hK.out _ _ (hbT) (fun hHeld => ?_)
        clear hK K
        try simp only [Act.put, List.setIfInBounds_toArray, List.set_cons_zero, List.set_cons_succ, List.getElem_toArray, List.getElem_cons_zero, List.getElem_cons_succ]
        clear hbT
        refine wpAnyH_ready (rs := [3]) (by kernel_rfl) (by simp) ?_
        refine AllReadyH.cons rfl (fun K hK => ?_) (AllReadyH.nil)
        refine Eq.mpr (if_pos (by rfl)) ?_
        refine wp_append_src9 _ _ _ 22 22 rfl 5 i0 (.int .u8 0) Tryd.underlying22 hi hz0 hz1 hz2 rfl gb 0 0 [] rfl (FO.out _ HI.out.rb) _ n (B body) rfl (Src.ofBytes _ Tryd.underlying22 HN.out (HRD.out.later (by rw [hL]; exact hHeld.bel))) (by omega) ?_
        intro gb3 cb3 u_4 hG3
        rw [Nat.zero_add n, List.nil_append] at hG3
        rw [Nat.zero_add n]
        have hbT := HB.above hHeld (w'' := u_4) (hG3.below (Below.refl _ _) gT)
        obtain ⟨ob3, ho3, FO3⟩ := hG3.own.obj9
        replace HI := hid (HI.out.set0 (w' := u_4) (fun k hk hne => hG3.grown.block k hk (by intro e; injection e with e; exact hne e.symm)) (by rcases hG3.blk with ⟨h, _⟩ | h; exact Or.inl h; exact Or.inr h) ho3)
        have gT3 : L + 4 ≤ gb3 := by
          rcases hG3.blk with ⟨h, _⟩ | h
          · omega
          · have := hHeld.size; omega
        replace FO := hid FO3
        clear hG3 ho3 FO3
        refine hK.out _ _ (hbT) (fun hHeld => ?_)
        clear hK K
        try simp only [Act.put, List.setIfInBounds_toArray, List.set_cons_zero, List.set_cons_succ, List.getElem_toArray, List.getElem_cons_zero, List.getElem_cons_succ]
        clear hbT
        refine wpAnyH_take (i := 6) (v := .agg (sgC (.slice (some ⟨gb3, 0, none⟩) n cb3) m).toArray) rfl (by kernel_rfl) (by kernel_rfl) (by kernel_rfl) (fun _ _ _ h => h) (yields_build9 (by rfl) 40 #[(0, .tmp 17), (1, .tmp 19)] rfl #[(0, .slice (some ⟨gb3, 0, none⟩) n cb3), (1, .agg ms.toArray)] (by first | rfl | simp [Act.eval]) _ (fun w => by rw [← HMS.out]; exact run_signed w _ n cb3 m HM.out)) hHeld ?_
        try simp only [Act.put, List.setIfInBounds_toArray, List.set_cons_zero, List.set_cons_succ, List.getElem_toArray, List.getElem_cons_zero, List.getElem_cons_succ]
        refine wpAnyH_ready (rs := [10]) (by kernel_rfl) (by simp) ?_
        refine AllReadyH.cons rfl (fun K hK => ?_) (AllReadyH.nil)
        refine Eq.mpr (if_pos (by rfl)) ?_
        refine wp_append_c9 _ _ rfl (L + 4) (.slice (some ⟨gc, 0, none⟩) 0 0) [] rfl (FC.out _ HI.out.rc) hHeld.size ov o rfl (HV.out.later (by rw [hL]; exact hHeld.bel)) (by have := HF.out.1; simp; omega) ?_
        intro v10 u_5 hH10 hB10 hkp hkq
        rw [List.nil_append] at hH10
        have hbT := HB.above hHeld (w'' := u_5) hB10
        obtain ⟨c10, hc10, hd10, FC10⟩ := hH10.opt9
        replace HI := hid (HI.out.set8 (w' := u_5) (c' := c10) (fun k hk hne => hkp k hk (by intro e; injection e with e; exact hne e.symm)) (fun x hx => by rcases hkq _ (hc10 x hx).2 with h | h; injection h with h; exact Or.inl h.symm; exact Or.inr h) (fun x hx => (hc10 x hx).1))
        obtain ⟨a10, p10, rfl⟩ := hH10.form
        have HBK := hid hd10
        replace FC := hid FC10
        clear hH10 hB10 hkp hkq FC10
        obtain ⟨es, hes⟩ : ∃ es, (⟨m, at_, List.replicate 32 0, List.replicate 32 0⟩ : En).cells (.slice (some ⟨gb3, 0, none⟩) n cb3) (.slice a10 o.length p10) = es := ⟨_, rfl⟩
        have HES := hid hes
        have HEB := hid (show ∀ wx, (Instr.build 56 #[(0, .agg (sgC (.slice (some ⟨gb3, 0, none⟩) n cb3) m).toArray), (1, .int .i64 at_), (2, .slice a10 o.length p10)]).run Tryd.prog wx = .ok (.agg es.toArray) wx from fun wx => by rw [← hes]; exact run_entry9 wx _ n cb3 m HM.out at_ a10 o.length p10)
        clear hes
        refine hK.out _ _ (hbT) (fun hHeld => ?_)
        clear hK K
        try simp only [Act.put, List.setIfInBounds_toArray, List.set_cons_zero, List.set_cons_succ, List.getElem_toArray, List.getElem_cons_zero, List.getElem_cons_succ]
        clear hbT
        refine wpAnyH_take (i := 11) (v := .agg es.toArray) rfl (by kernel_rfl) (by kernel_rfl) (by kernel_rfl) (fun _ _ _ h => h) (yields_build9 (by rfl) 56 #[(0, .tmp 20), (1, .tmp 21), (2, .tmp 24)] rfl #[(0, .agg (sgC (.slice (some ⟨gb3, 0, none⟩) n cb3) m).toArray), (1, .int .i64 at_), (2, .slice a10 o.length p10)] (by first | rfl | simp [Act.eval]) _ HEB.out) hHeld ?_
        try simp only [Act.put, List.setIfInBounds_toArray, List.set_cons_zero, List.set_cons_succ, List.getElem_toArray, List.getElem_cons_zero, List.getElem_cons_succ]
        refine wpAnyH_ready (rs := [13]) (by kernel_rfl) (by simp) ?_
        refine AllReadyH.cons rfl (fun K hK => ?_) (AllReadyH.nil)
        have HEL := hid (show es.length = 99 by rw [← HES.out]; exact En.len HOK.out)
        have HEO := hid (show ∀ v ∈ es, v.oneCell' = true by rw [← HES.out]; exact En.one rfl rfl)
        have hBE : Blk u_5 56 E zs := HI.out.re
        refine Eq.mpr (if_pos (by rfl)) ?_
        refine wp_store_list 56 _ _ rfl E 0 es rfl rfl (hBE.there (by rw [HEL.out, HZL.out]; omega)) (by rw [HEL.out]; exact HIE.out) HEO.out ?_
        intro u_6 hw13
        have hB13 : Blk u_6 56 E es := by
          rw [hw13]
          have h3 := Blk.setCells es [] zs [] (o := 0) (by simpa using hBE) (by rw [HZL.out, HEL.out]) rfl
          simpa using h3
        have hbT := HB.above hHeld (w'' := u_6) (by rw [hw13]; exact below_setCells eT _ _ (Below.refl _ _))
        have hI := HI.out.set12 (w' := u_6) (ob' := .cells es.toArray 56) (fun k hk hne => by rw [hw13]; exact setCells_heap hne es 0 _) hB13
        have HFIN := hid (show EntryAt L w [(40, L + 2, cs), (26, L + 1, ps), (35, L, ks)] at_ m o body n (.pointer (some ⟨E, 0, none⟩)) u_6 from ⟨E, gb3, cb3, .slice a10 o.length p10, rfl, hbT, ⟨HOK.out, by rw [HES.out]; exact hB13⟩, FO.out _ hI.rb, FC.out _ hI.rc, eT, gT3, hI.be, fun k hk => by obtain ⟨ob, rfl⟩ := HBK.out k hk; exact hI.ceo _ rfl _ rfl⟩)
        clear hw13 hBE hB13 hI
        refine hK.out _ _ (hbT) (fun hHeld => ?_)
        clear hK K
        try simp only [Act.put, List.setIfInBounds_toArray, List.set_cons_zero, List.set_cons_succ, List.getElem_toArray, List.getElem_cons_zero, List.getElem_cons_succ]
        clear hbT
        refine wpAnyH_done (by kernel_rfl) ?_ _
        go_wp2_with fail
        go_meet
        exact HFIN.out
  case rest =>
  -- REGION2
  obtain ⟨E, gb, cb, v10, rfl, hH, hE, hO, hC, eT, gT, gE, hsep⟩ := hcut
  have HS2 := hid hH
  have HE2 := hid hE
  have HO2 := hid hO
  have HC2 := hid hC
  have HSEP := hid hsep
  clear hH hE hO hC hsep HS
  obtain ⟨e0s, he0s⟩ : ∃ es, (⟨m, at_, List.replicate 32 0, List.replicate 32 0⟩ : En).cells (.slice (some ⟨gb, 0, none⟩) n cb) v10 = es := ⟨_, rfl⟩
  have HE0S := hid he0s
  have HE0L := hid (show e0s.length = 99 by rw [← he0s]; exact En.len HOK.out)
  obtain ⟨core, hcore⟩ : ∃ core, tx body ++ m ++ i8 at_ ++ tx (opB o) = core := ⟨_, rfl⟩
  obtain ⟨N, hN⟩ : ∃ N, coreN body.length o = N := ⟨_, rfl⟩
  have HNL := hid (show core.length = N by rw [← hcore, ← hN]; exact coreB_len HOK.out body o)
  have hN2 : N ≤ 8600 := by rw [← hN, coreN]; have := HF.out.le; have := HBL.out; omega
  obtain ⟨hh, hhh⟩ : ∃ hh, shaS (ph ++ core) = hh := ⟨_, rfl⟩
  have HHH := hid (show hh.length = 32 by rw [← hhh]; exact shaS_len _)
  have HGN := hid (show ∀ wx, Reads wx (.slice (some ⟨gb, 0, none⟩) n cb) (B body) → RC wx v10 o → Calls Tryd.prog 30 #[.agg ps.toArray, .agg e0s.toArray] wx (fun x w' => x = .returned (.agg (B hh).toArray) ∧ Below wx.heap.size wx w') from fun wx h1 h2 => by
    have := gNext_any ph HPH.out ⟨m, at_, List.replicate 32 0, List.replicate 32 0⟩ HOK.out _ v10 body o wx h1 HBL.out h2 HF.out
    rw [he0s, HPS.out, coreB, hcore, hhh] at this
    exact this)
  obtain ⟨mc, hmc⟩ : ∃ mc, macS (KY j) (core ++ hh) = mc := ⟨_, rfl⟩
  have HMC := hid hmc
  have HMC32 := hid (show mc.length = 32 by rw [← hmc]; exact macS_len _ _)
  obtain ⟨e1s, he1s⟩ : ∃ es, (⟨m, at_, hh, List.replicate 32 0⟩ : En).cells (.slice (some ⟨gb, 0, none⟩) n cb) v10 = es := ⟨_, rfl⟩
  have HE1S := hid he1s
  have HOK1 := hid (show (⟨m, at_, hh, List.replicate 32 0⟩ : En).Ok from ⟨HM.out, HHH.out, by simp⟩)
  have HE1L := hid (show e1s.length = 99 by rw [← he1s]; exact En.len HOK1.out)
  have GC1 := hid (show ∀ wx, Reads wx (.slice (some ⟨gb, 0, none⟩) n cb) (B body) → RC wx v10 o → Calls Tryd.prog 26 #[.agg e1s.toArray] wx (fun x w' => ∃ g cap, x = .returned (.slice (some ⟨g, 0, none⟩) N cap) ∧ wx.heap.size ≤ g ∧ Owns w' 5 g cap N (B core) ∧ Below wx.heap.size wx w') from fun wx h1 h2 => by
    have := gCore_any ⟨m, at_, hh, List.replicate 32 0⟩ HOK1.out _ v10 body o wx h1 HBL.out h2 HF.out
    rw [he1s, hN, coreB, hcore] at this
    exact this)
  have HMADE := hid (show madeE (KY j) ph m at_ body o = ⟨m, at_, hh, mc⟩ by rw [madeE, hashE, hcore, hhh, hmc])
  obtain ⟨hhs, hhhs⟩ : ∃ hs, B hh = hs := ⟨_, rfl⟩
  have HHS := hid hhhs
  have HHL := hid (show hhs.length = 32 by rw [← hhhs, B_length, HHH.out])
  have HHO := hid (show ∀ v ∈ hhs, v.oneCell' = true by rw [← hhhs]; exact B_one _)
  obtain ⟨mcs, hmcs⟩ : ∃ ms, B mc = ms := ⟨_, rfl⟩
  have HMCS := hid hmcs
  have HMCL := hid (show mcs.length = 32 by rw [← hmcs, B_length, HMC32.out])
  have HMCO := hid (show ∀ v ∈ mcs, v.oneCell' = true by rw [← hmcs]; exact B_one _)
  rw [hhhs] at HGN
  clear he0s hcore hN hhh hmc he1s hhhs hmcs
  have HOX := hid (show v10.oneCell' = true by obtain ⟨a, c, rfl⟩ := HC2.out.form; rfl)
  go_wp2_with (first
    | (show wpList _ _ _ (⟨some 26, Op.load _ _, _, _, _, _⟩ :: _) _ _; go_must (refine wpList_load_mid rfl 26 _ rfl (L + 1) 0 rfl ps _ (HS2.out.tl.fst.range fun j v hv => by rw [Nat.zero_add]; exact hv) Tryd.underlying26 rfl (by rw [HPL.out]; exact HIH.out) ?_))
    | (show wpList _ _ _ (⟨some 27, Op.load _ _, _, _, _, _⟩ :: _) _ _; go_must (refine wpList_load_mid rfl 56 _ rfl E 0 rfl e0s _ (by rw [← HE0S.out]; exact HE2.out.whole) Tryd.underlying56 rfl (by rw [HE0L.out]; exact HIE.out) ?_)))
  -- CALL2
  refine (HGN.out _ HO2.out.reads HC2.out.reads).mono ?_
  rintro _ w5 ⟨rfl, hb5⟩
  have HS5 := hid (HS2.out.later hb5)
  have HE5 := hid (HE2.out.later hb5)
  have HO5 := hid (HO2.out.later hb5)
  have HC5 := hid (HC2.out.later hb5)
  clear hb5 HS2 HE2 HO2 HC2 HGN
  go_upto_region 3 with (show wpList _ _ _ (⟨none, Op.store _ (Operand.tmp 29) (Operand.tmp 28), _, _, _, _⟩ :: _) _ _; go_must (refine wpList_store_list rfl 26 _ _ rfl E 35 hhs rfl rfl (HE5.out.there (by rw [HHL.out]; omega)) (by rw [HHL.out]; exact HIH.out) HHO.out ?_); intro w6 hw6; have HX6 := hid (show EnW w6 56 E ⟨m, at_, hh, List.replicate 32 0⟩ (.slice (some ⟨gb, 0, none⟩) n cb) v10 ∧ Owns w6 5 gb cb n (B body) ∧ HasC w6 (L + 4) v10 o ∧ HB L (L + 4) w [(40, L + 2, cs), (26, L + 1, ps), (35, L, ks)] (L + 3) 56 99 w6 by rw [hw6, ← HHS.out]; exact ⟨HE5.out.set_hash hh HHH.out, HO5.out.kept (setCells_heap gE _ 35 _), HC5.out.kept9 (fun k hk => setCells_heap (HSEP.out k hk) _ 35 _), HS5.out.above (below_setCells eT _ _ (Below.refl _ _))⟩); clear hw6)
  -- REGION3
  have HE6 := hid (show EnW w6.drew 56 E ⟨m, at_, hh, List.replicate 32 0⟩ (.slice (some ⟨gb, 0, none⟩) n cb) v10 from HX6.out.1.kept rfl)
  have HO6 := hid (show Owns w6.drew 5 gb cb n (B body) from HX6.out.2.1)
  have HC6 := hid (show HasC w6.drew (L + 4) v10 o from HX6.out.2.2.1.kept9 (fun _ _ => rfl))
  have HS3 := hid (HX6.out.2.2.2.drew)
  clear HX6 HS5 HE5 HO5 HC5
  refine wp_region_held_drew (S := fun w' => HB L (L + 4) w [(40, L + 2, cs), (26, L + 1, ps), (35, L, ks)] (L + 3) 56 99 w') (by kernel_rfl) (HS3.out) (fun hHeld => ?_)
  generalize w6.drew = we at *
  refine wpAnyH_take (i := 0) (v := .int .i64 (j : Int)) rfl (by kernel_rfl) (by kernel_rfl) (by kernel_rfl) (fun _ _ _ h => h) (Or.inl ⟨by rfl, by intro w hSw; go_simp⟩) hHeld ?_
  try simp only [Act.put, List.setIfInBounds_toArray, List.set_cons_zero, List.set_cons_succ, List.getElem_toArray, List.getElem_cons_zero, List.getElem_cons_succ]
  refine wpAnyH_take (i := 1) (v := .pointer (some ⟨L, j, none⟩)) rfl (by kernel_rfl) (by kernel_rfl) (by kernel_rfl) (fun _ _ _ h => h) (Or.inl ⟨by rfl, by intro w hSw; go_simp⟩) hHeld ?_
  try simp only [Act.put, List.setIfInBounds_toArray, List.set_cons_zero, List.set_cons_succ, List.getElem_toArray, List.getElem_cons_zero, List.getElem_cons_succ]
  refine wpAnyH_take (i := 2) (v := .slice ka kn kc) rfl (by kernel_rfl) (by kernel_rfl) (by kernel_rfl) (fun _ _ _ h => h) (Or.inl ⟨by rfl, by intro w hSw; have q := hSw.tl.tl.fst.cell HKJ.out; go_simp⟩) hHeld ?_
  try simp only [Act.put, List.setIfInBounds_toArray, List.set_cons_zero, List.set_cons_succ, List.getElem_toArray, List.getElem_cons_zero, List.getElem_cons_succ]
  refine wpAnyH_take (i := 5) (v := .pointer (some ⟨E, 35, none⟩)) rfl (by kernel_rfl) (by kernel_rfl) (by kernel_rfl) (fun _ _ _ h => h) (Or.inl ⟨by rfl, by intro w hSw; go_simp⟩) hHeld ?_
  try simp only [Act.put, List.setIfInBounds_toArray, List.set_cons_zero, List.set_cons_succ, List.getElem_toArray, List.getElem_cons_zero, List.getElem_cons_succ]
  refine wpAnyH_take (i := 6) (v := .slice (some ⟨E, 35, none⟩) 32 32) rfl (by kernel_rfl) (by kernel_rfl) (by kernel_rfl) (fun _ _ _ h => h) (Or.inl ⟨by rfl, by intro w hSw; go_simp⟩) hHeld ?_
  try simp only [Act.put, List.setIfInBounds_toArray, List.set_cons_zero, List.set_cons_succ, List.getElem_toArray, List.getElem_cons_zero, List.getElem_cons_succ]
  refine wpAnyH_ready (rs := [3]) (by kernel_rfl) (by simp) ?_
  refine AllReadyH.cons rfl (fun K hK => ?_) AllReadyH.nil
  refine Eq.mpr (if_pos (by rfl)) ?_
  refine wp_load_mid 56 _ rfl E 0 rfl e1s _ (by rw [← HE1S.out]; exact HE6.out.whole) Tryd.underlying56 rfl (by rw [HE1L.out]; exact HIE.out) ?_
  refine hK.out _ _ (hHeld) (fun hHeld => ?_)
  clear hK K
  try simp only [Act.put, List.setIfInBounds_toArray, List.set_cons_zero, List.set_cons_succ, List.getElem_toArray, List.getElem_cons_zero, List.getElem_cons_succ]
  refine wpAnyH_ready (rs := [4]) (by kernel_rfl) (by simp) ?_
  refine AllReadyH.cons rfl (fun K hK => ?_) AllReadyH.nil
  go_simp
  refine (GC1.out _ HO6.out.reads HC6.out.reads).mono ?_
  have HSZ3 := hid hHeld.size
  rintro _ w7 ⟨g7, c7, rfl, hg7, hO7, hb7⟩
  refine hK.out _ _ (hHeld.later hb7) (fun hHeld => ?_)
  clear hK K
  try simp only [Act.put, List.setIfInBounds_toArray, List.set_cons_zero, List.set_cons_succ, List.getElem_toArray, List.getElem_cons_zero, List.getElem_cons_succ]
  have HE7 := hid (HE6.out.later hb7)
  have HB7 := hid (HO6.out.later hb7)
  have HC7 := hid (HC6.out.later hb7)
  have HO7 := hid hO7
  have g7T : L + 4 ≤ g7 := by have := HSZ3.out; omega
  have g7E : E < g7 := by have := HE6.out.lt; omega
  have g7B : gb < g7 := by have := HO6.out.lt; omega
  have g7C := hid (show ∀ k, blkOf v10 = some k → k < g7 from fun k hk => by have := HasK.blk HC6.out hk; omega)
  clear hO7 hb7 hg7 HE6 HO6 HC6
  refine wpAnyH_ready (rs := [7]) (by kernel_rfl) (by simp) ?_
  refine AllReadyH.cons rfl (fun K hK => ?_) AllReadyH.nil
  refine Eq.mpr (if_pos (by rfl)) ?_
  refine wp_append_src9 _ _ _ 22 22 rfl 5 i0 (.int .u8 0) Tryd.underlying22 hi hz0 hz1 hz2 rfl g7 c7 N (B core) rfl HO7.out _ 32 (B hh) rfl (Src.ofBytes _ Tryd.underlying22 HHH.out (reads_range HHH.out HE7.out.hash)) (by omega) ?_
  intro g8 c8 w8 hG8
  refine hK.out _ _ (hHeld.grow hG8.grown (by omega)) (fun hHeld => ?_)
  clear hK K
  try simp only [Act.put, List.setIfInBounds_toArray, List.set_cons_zero, List.set_cons_succ, List.getElem_toArray, List.getElem_cons_zero, List.getElem_cons_succ]
  have HO8 := hid (show Owns w8 5 g8 c8 (N + 32) (B (core ++ hh)) by rw [B_append]; exact hG8.own)
  have HE8 := hid (HE7.out.grown hG8.grown (by intro e; injection e; omega))
  have HB8 := hid (HB7.out.kept (hG8.grown.block gb HB7.out.lt (by intro e; injection e; omega)))
  have HC8 := hid (HC7.out.kept9 (fun k hk => hG8.grown.block k (HasK.blk HC7.out hk) (by intro e; injection e with e; have := g7C.out k hk; omega)))
  clear hG8 HO7 HE7 HB7 HC7
  refine wpAnyH_ready (rs := [8]) (by kernel_rfl) (by simp) ?_
  refine AllReadyH.cons rfl (fun K hK => ?_) AllReadyH.nil
  go_simp
  refine (refMac_any (KY j) ka kn kc HKN.out (core ++ hh) _ (N + 32) c8 (by rw [List.length_append, HNL.out, HHH.out]) _ (HKR.out.later (by rw [hL]; exact hHeld.bel)) HO8.out.reads (by have := HK2.out; omega) (by omega)).mono ?_
  rintro _ w9 ⟨rfl, hb9⟩
  rw [HMC.out, HMCS.out]
  refine hK.out _ _ (hHeld.later hb9) (fun hHeld => ?_)
  clear hK K
  try simp only [Act.put, List.setIfInBounds_toArray, List.set_cons_zero, List.set_cons_succ, List.getElem_toArray, List.getElem_cons_zero, List.getElem_cons_succ]
  have HE9 := hid (HE8.out.later hb9)
  have HB9 := hid (HB8.out.later hb9)
  have HC9 := hid (HC8.out.later hb9)
  clear hb9 HO8 HE8 HB8 HC8
  refine wpAnyH_ready (rs := [9]) (by kernel_rfl) (by simp) ?_
  refine AllReadyH.cons rfl (fun K hK => ?_) AllReadyH.nil
  go_simp
  refine hK.out _ _ (hHeld) (fun hHeld => ?_)
  clear hK K
  try simp only [Act.put, List.setIfInBounds_toArray, List.set_cons_zero, List.set_cons_succ, List.getElem_toArray, List.getElem_cons_zero, List.getElem_cons_succ]
  refine wpAnyH_ready (rs := [10]) (by kernel_rfl) (by simp) ?_
  refine AllReadyH.cons rfl (fun K hK => ?_) AllReadyH.nil
  refine Eq.mpr (if_pos (by rfl)) ?_
  refine wp_store_list 26 _ _ rfl E 67 mcs rfl rfl (HE9.out.there (by rw [HMCL.out]; omega)) (by rw [HMCL.out]; exact HIH.out) HMCO.out ?_
  intro w10 hw10
  have HE10 := hid (show EnW w10 56 E ⟨m, at_, hh, mc⟩ (.slice (some ⟨gb, 0, none⟩) n cb) v10 by rw [hw10, ← HMCS.out]; exact HE9.out.set_mac mc HMC32.out)
  have HB10 := hid (HB9.out.kept (w' := w10) (by rw [hw10]; exact setCells_heap (by omega) mcs 67 _))
  have HC10 := hid (HC9.out.kept9 (w' := w10) (fun k hk => by rw [hw10]; exact setCells_heap (HSEP.out k hk) mcs 67 _))
  have hbT := HB.above hHeld (w'' := w10) (by rw [hw10]; exact below_setCells eT _ _ (Below.refl _ _))
  clear hw10 HE9 HB9 HC9
  refine hK.out _ _ (hbT) (fun hHeld => ?_)
  clear hK K
  try simp only [Act.put, List.setIfInBounds_toArray, List.set_cons_zero, List.set_cons_succ, List.getElem_toArray, List.getElem_cons_zero, List.getElem_cons_succ]
  have HS4 := hid hHeld
  refine wpAnyH_done (by kernel_rfl) ?_ _
  -- REGION4
  obtain ⟨e2s, he2s⟩ : ∃ es, (⟨m, at_, hh, mc⟩ : En).cells (.slice (some ⟨gb, 0, none⟩) n cb) v10 = es := ⟨_, rfl⟩
  have HE2S := hid he2s
  have HE2L := hid (show e2s.length = 99 by rw [← he2s]; exact En.len ⟨HM.out, HHH.out, HMC32.out⟩)
  have HE2O := hid (show ∀ v ∈ e2s, v.oneCell' = true by rw [← he2s]; exact En.one rfl HOX.out)
  clear he2s
  go_wp2_with (first
    | (show wpList _ _ _ (⟨some 40, Op.load _ _, _, _, _, _⟩ :: _) _ _; go_must (refine wpList_load_mid rfl 56 _ rfl E 0 rfl e2s _ (by rw [← HE2S.out]; exact HE10.out.whole) Tryd.underlying56 rfl (by rw [HE2L.out]; exact HIE.out) ?_))
    | (show wpList _ _ _ (⟨none, Op.store _ (Operand.tmp 12) (Operand.tmp 40), _, _, _, _⟩ :: _) _ _; go_must (refine wpList_store_list rfl 56 _ _ rfl (L + 3) 0 e2s rfl rfl (HS4.out.there (by rw [HE2L.out]; omega)) (by rw [HE2L.out]; exact HIE.out) HE2O.out ?_); intro w11 hw11; have HX := hid (show Blk w11 56 (L + 3) e2s ∧ Below L w w11 ∧ Owns w11 5 gb cb n (B body) ∧ HasC w11 L v10 o by rw [hw11]; exact ⟨HS4.out.whole HE2L.out, (HS4.out.store e2s 0 (by rw [HE2L.out]; omega)).bel, HB10.out.kept (setCells_heap (by omega) _ 0 _), (HC10.out.kept9 (fun k hk => setCells_heap (by have := HC10.out.ge9 hk; omega) _ 0 _)).mono (by omega)⟩); clear hw11))
  -- RET
  refine ret_cell 12 56 rfl (L + 3) rfl e2s _ (HX.out.1.range fun j v hv => by rw [Nat.zero_add]; exact hv) Tryd.underlying56 rfl (by rw [HE2L.out]; exact HIE.out) rfl ⟨gb, cb, v10, by rw [HMADE.out, HE2S.out], by omega, HX.out.2.2.1, by rw [hL]; exact HX.out.2.2.2, by rw [hL]; exact HX.out.2.1⟩
end Go.Proofs.YtinifnpajkldbaaDoor
