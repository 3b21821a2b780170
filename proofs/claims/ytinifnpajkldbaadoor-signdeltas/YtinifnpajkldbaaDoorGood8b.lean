/- The contract of the laws' own Good (chapter 8). -/
import Derived.Test.YtinifnpajkldbaaDoorQ9b51
import Derived.Test.YtinifnpajkldbaaDoorMake
import Derived.Test.YtinifnpajkldbaaDoorQ9b40
import Derived.Test.YtinifnpajkldbaaDoorPk6
import Derived.Laws.Tables
import Derived.Deep.RegionHeld3
namespace Go.Proofs.YtinifnpajkldbaaDoor
open Go.RowKit
set_option linter.unusedSimpArgs false
set_option linter.unusedVariables false

theorem Blk.beside {w : World} {t : TypeId} {q : Nat} {cs : List Value} (h : Blk w t q cs) {b : Nat} (hne : q ≠ b) (j : Nat) (v : Value) : Blk (w.setCell ⟨b, j, none⟩ v) t q cs := h.kept (heap_setCell_other w ⟨b, j, none⟩ q v hne)
theorem DW.beside {w : World} {t : TypeId} {q : Nat} {d : Dl} {o : Value} (h : DW w t q d o) {b : Nat} (hne : q ≠ b) (j : Nat) (v : Value) : DW (w.setCell ⟨b, j, none⟩ v) t q d o := ⟨h.len, h.blk.beside hne j v⟩
/-- A value built of parts yields it in every world. -/
theorem yields_build {P : Program} {ops : Array Oper} {S : World → Prop} {op : Oper} {a : Act} (hw : Region.wanted op (yielded ops a.tmps) = true) (ty : TypeId) (ps : Array (Nat × Operand)) (ho : op.op = .build ty ps)
    (vs : Array (Nat × Value)) (hv : (ps.map fun (i, x) => (i, a.eval x)) = vs) (cells : Array Value) (h : ∀ w, (Instr.build ty vs).run P w = .ok (.agg cells) w) : YieldsIf P ops S op (.agg cells) a :=
  .inl ⟨hw, fun w _ => by
    unfold execOp
    simp only [ho, hv, Sem.run_bind, Sem.run_pure, h, Result.andThen_ok]⟩
theorem setCells_sz {g : Nat} : ∀ (vs : List Value) (o : Nat) (w : World), (w.setCells g o vs).heap.size = w.heap.size
  | [], _, _ => rfl
  | v :: vs, o, w => by rw [World.setCells, setCells_sz vs (o + 1)]; simp [World.setCell]
/-- A valid delta, of a raw one. -/
def goodD (d : Dl) : Dl := ⟨d.aD % 3, d.aU % 8, d.id % 1073741825, d.ver % 1048577, d.h, 1 + d.k % 3, if d.k % 3 = 0 then 0 else d.wD % 3, if d.k % 3 = 0 then 0 else d.wU % 8⟩
def goodA (d : Dl) : Dl := ⟨d.aD % 3, d.aU % 8, d.id % 1073741825, d.ver % 1048577, d.h, 1 + d.k % 3, 0, 0⟩

set_option maxRecDepth 100000 in
theorem built_delta0 (x y i v k : Int) (h0 h1 h2 h3 h4 h5 h6 h7 h8 h9 h10 h11 h12 h13 h14 h15 h16 h17 h18 h19 h20 h21 h22 h23 h24 h25 h26 h27 h28 h29 h30 h31 : UInt8) : Tryd.prog.built 30 [(0, .agg #[.int .i64 x, .int .i64 y]), (1, .int .i64 i), (2, .int .i64 v), (3, .agg (B [h0, h1, h2, h3, h4, h5, h6, h7, h8, h9, h10, h11, h12, h13, h14, h15, h16, h17, h18, h19, h20, h21, h22, h23, h24, h25, h26, h27, h28, h29, h30, h31]).toArray), (4, .int .i64 k)] = some ((⟨x, y, i, v, [h0, h1, h2, h3, h4, h5, h6, h7, h8, h9, h10, h11, h12, h13, h14, h15, h16, h17, h18, h19, h20, h21, h22, h23, h24, h25, h26, h27, h28, h29, h30, h31], k, 0, 0⟩ : Dl).cells (.slice none 0 0)).toArray := by kernel_rfl
theorem built_delta (x y i v k : Int) (h : List UInt8) (hl : h.length = 32) : Tryd.prog.built 30 [(0, .agg #[.int .i64 x, .int .i64 y]), (1, .int .i64 i), (2, .int .i64 v), (3, .agg (B h).toArray), (4, .int .i64 k)] = some ((⟨x, y, i, v, h, k, 0, 0⟩ : Dl).cells (.slice none 0 0)).toArray := by
  match h, hl with
  | [h0, h1, h2, h3, h4, h5, h6, h7, h8, h9, h10, h11, h12, h13, h14, h15, h16, h17, h18, h19, h20, h21, h22, h23, h24, h25, h26, h27, h28, h29, h30, h31], _ => exact built_delta0 x y i v k h0 h1 h2 h3 h4 h5 h6 h7 h8 h9 h10 h11 h12 h13 h14 h15 h16 h17 h18 h19 h20 h21 h22 h23 h24 h25 h26 h27 h28 h29 h30 h31
theorem run_delta (w : World) (x y i v k : Int) (h : List UInt8) (hl : h.length = 32) : (Instr.build 30 #[(0, .agg #[.int .i64 x, .int .i64 y]), (1, .int .i64 i), (2, .int .i64 v), (3, .agg (B h).toArray), (4, .int .i64 k)]).run Tryd.prog w = .ok (.agg ((⟨x, y, i, v, h, k, 0, 0⟩ : Dl).cells (.slice none 0 0)).toArray) w :=
  run_build w _ _ _ (built_delta x y i v k h hl)

set_option maxRecDepth 100000 in
set_option maxHeartbeats 8000000 in
theorem good8_any (d : Dl) (hd : d.h.length = 32) (v : Value) (o : List Cp) (w : World) (hv : RC w v o) (n : Nat) (hn : n ≤ 120) (ao : Option Addr) (len cap : Nat) (hns : NS w ao len) (hcap : len ≤ cap) (hlen : len ≤ 9223372036854775807) :
    Calls Tryd.prog 11 #[.agg (d.cells v).toArray, .int .i64 n, .slice ao len cap] w fun e w' => ∃ v' o', e = .returned (.agg ((goodD d).cells v').toArray) ∧ HasC w' w.heap.size v' o' ∧ Below w.heap.size w w' ∧ (d.k % 3 = 0 → Made n o') ∧ (d.k % 3 ≠ 0 → o' = []) := by
  obtain ⟨av, cv, rfl⟩ := hv.form
  obtain ⟨cs, hcs⟩ : ∃ cs, d.cells (.slice av o.length cv) = cs := ⟨_, rfl⟩
  rw [hcs]
  have HCS := hid hcs
  have HD := hid hd
  have HNS := hid hns
  have hHi := hid (show (Tryd.prog.info? 26).map (·.size) = some (B d.h).length by rw [B_length, hd]; kernel_rfl)
  have HI := hid (show (Tryd.prog.info? 30).map (·.size) = some 40 by kernel_rfl)
  obtain ⟨L, hL⟩ : ∃ L, w.heap.size = L := ⟨_, rfl⟩
  have HZ := hid (show (Tryd.prog.info? 30).bind (fun i => i.zero.map fun z => z.cells.toList) = some (Dl.zero.cells (.slice none 0 0)) by kernel_rfl)
  clear hcs hv hd hns
  go_enter Tryd.func11, Tryd.ntmps11
  go_upto_region 1 with (first
    | (show wpList _ _ _ (⟨some 3, Op.box _ _, _, _, _, _⟩ :: _) _ _; go_must (refine wpList_box_blk rfl 30 _ rfl cs rfl L hL ?_); intro w1 hB1 hb1 hs1; rw [← HCS.out] at hB1; have HW := hid (DW.mk HD.out hB1); clear hB1; replace hb1 := hid hb1)
    | (show wpList _ _ _ (⟨some 6, Op.alloc _, _, _, _, _⟩ :: _) _ _; go_must (refine wpList_alloc_blk rfl 30 rfl _ HZ.out (L + 1) hs1 ?_); intro w2 hB2 hb2 hs2))
  try simp only [Act.put, List.setIfInBounds_toArray, List.set_cons_zero, List.set_cons_succ, List.getElem_toArray, List.getElem_cons_zero, List.getElem_cons_succ]
  obtain ⟨x1, hx1⟩ : ∃ x, d.aD % 3 = x := ⟨_, rfl⟩
  obtain ⟨x2, hx2⟩ : ∃ x, d.aU % 8 = x := ⟨_, rfl⟩
  obtain ⟨x3, hx3⟩ : ∃ x, d.id % 1073741825 = x := ⟨_, rfl⟩
  obtain ⟨x4, hx4⟩ : ∃ x, d.ver % 1048577 = x := ⟨_, rfl⟩
  obtain ⟨x5, hx5⟩ : ∃ x, d.k % 3 = x := ⟨_, rfl⟩
  have HWU := hid (show IntKind.i64.wrap (1 + x5) = 1 + x5 by rw [IntKind.wrap_i64]; omega)
  have hk0 : 0 ≤ x5 := by omega
  have hk3 : x5 < 3 := by omega
  have HE1 := hid hx1
  have HE2 := hid hx2
  have HE3 := hid hx3
  have HE4 := hid hx4
  have HE5 := hid hx5
  obtain ⟨gs, hgs⟩ : ∃ gs, (⟨x1, x2, x3, x4, d.h, 1 + x5, 0, 0⟩ : Dl).cells (.slice none 0 0) = gs := ⟨_, rfl⟩
  have HGS := hid hgs
  have HGL := hid (show gs.length = 40 by rw [← hgs]; exact Dl.len HD.out)
  have HGO := hid (show ∀ v ∈ gs, v.oneCell' = true by rw [← hgs]; exact Dl.one rfl)
  have HBD := hid (show ∀ wx, (Instr.build 30 #[(0, .agg #[.int .i64 x1, .int .i64 x2]), (1, .int .i64 x3), (2, .int .i64 x4), (3, .agg (B d.h).toArray), (4, .int .i64 (1 + x5))]).run Tryd.prog wx = .ok (.agg gs.toArray) wx from fun wx => by rw [← hgs]; exact run_delta wx x1 x2 x3 x4 (1 + x5) d.h HD.out)
  have HS2 := hid (show DW w2.drew 30 L d (.slice av o.length cv) ∧ Below L w w2.drew from ⟨(HW.out.kept (hb2.block L (by omega))).kept rfl, (hb1.out.trans (hb2.mono (by omega))).drew⟩)
  have HB2 := hid (show Blk w2.drew 30 (L + 1) (Dl.zero.cells (.slice none 0 0)) from hB2.drewN 1)
  have hz2 : w2.drew.heap.size = L + 2 := hs2
  clear hx1 hx2 hx3 hx4 hx5 hgs HW hb1 hB2 hb2 hs2 hs1
  go_cut [7] (fun s7 w' => s7 = .pointer (some ⟨L + 2, 0, none⟩) ∧ w'.heap.size = L + 3 ∧ DW w' 30 L d (.slice av o.length cv) ∧ Blk w' 30 (L + 1) (Dl.zero.cells (.slice none 0 0)) ∧ Blk w' 30 (L + 2) gs ∧ Below L w w')
  case first =>
    refine wp_region_held_drew (S := fun w' => DW w' 30 L d (.slice av o.length cv) ∧ Below L w w') (by kernel_rfl) (HS2.out) (fun hHeld => ?_)
    refine wpAnyH_take (i := 0) (v := .pointer (some ⟨L, 0, none⟩)) rfl (by kernel_rfl) (by kernel_rfl) (by kernel_rfl) (fun _ _ _ h => h) (Or.inl ⟨by rfl, by intro w hSw; go_simp⟩) hHeld ?_
    try simp only [Act.put, List.setIfInBounds_toArray, List.set_cons_zero, List.set_cons_succ, List.getElem_toArray, List.getElem_cons_zero, List.getElem_cons_succ]
    refine wpAnyH_take (i := 1) (v := .pointer (some ⟨L, 0, none⟩)) rfl (by kernel_rfl) (by kernel_rfl) (by kernel_rfl) (fun _ _ _ h => h) (Or.inl ⟨by rfl, by intro w hSw; go_simp⟩) hHeld ?_
    try simp only [Act.put, List.setIfInBounds_toArray, List.set_cons_zero, List.set_cons_succ, List.getElem_toArray, List.getElem_cons_zero, List.getElem_cons_succ]
    refine wpAnyH_take (i := 2) (v := .int .i64 d.aD) rfl (by kernel_rfl) (by kernel_rfl) (by kernel_rfl) (fun _ _ _ h => h) (Or.inl ⟨by rfl, by intro w hSw; have q := hSw.1.cells.1; go_simp⟩) hHeld ?_
    try simp only [Act.put, List.setIfInBounds_toArray, List.set_cons_zero, List.set_cons_succ, List.getElem_toArray, List.getElem_cons_zero, List.getElem_cons_succ]
    refine wpAnyH_take (i := 4) (v := .pointer (some ⟨L, 0, none⟩)) rfl (by kernel_rfl) (by kernel_rfl) (by kernel_rfl) (fun _ _ _ h => h) (Or.inl ⟨by rfl, by intro w hSw; go_simp⟩) hHeld ?_
    try simp only [Act.put, List.setIfInBounds_toArray, List.set_cons_zero, List.set_cons_succ, List.getElem_toArray, List.getElem_cons_zero, List.getElem_cons_succ]
    refine wpAnyH_take (i := 5) (v := .pointer (some ⟨L, 1, none⟩)) rfl (by kernel_rfl) (by kernel_rfl) (by kernel_rfl) (fun _ _ _ h => h) (Or.inl ⟨by rfl, by intro w hSw; go_simp⟩) hHeld ?_
    try simp only [Act.put, List.setIfInBounds_toArray, List.set_cons_zero, List.set_cons_succ, List.getElem_toArray, List.getElem_cons_zero, List.getElem_cons_succ]
    refine wpAnyH_take (i := 6) (v := .int .i64 d.aU) rfl (by kernel_rfl) (by kernel_rfl) (by kernel_rfl) (fun _ _ _ h => h) (Or.inl ⟨by rfl, by intro w hSw; have q := hSw.1.cells.2.1; go_simp⟩) hHeld ?_
    try simp only [Act.put, List.setIfInBounds_toArray, List.set_cons_zero, List.set_cons_succ, List.getElem_toArray, List.getElem_cons_zero, List.getElem_cons_succ]
    refine wpAnyH_take (i := 9) (v := .pointer (some ⟨L, 2, none⟩)) rfl (by kernel_rfl) (by kernel_rfl) (by kernel_rfl) (fun _ _ _ h => h) (Or.inl ⟨by rfl, by intro w hSw; go_simp⟩) hHeld ?_
    try simp only [Act.put, List.setIfInBounds_toArray, List.set_cons_zero, List.set_cons_succ, List.getElem_toArray, List.getElem_cons_zero, List.getElem_cons_succ]
    refine wpAnyH_take (i := 10) (v := .int .i64 d.id) rfl (by kernel_rfl) (by kernel_rfl) (by kernel_rfl) (fun _ _ _ h => h) (Or.inl ⟨by rfl, by intro w hSw; have q := hSw.1.cells.2.2.1; go_simp⟩) hHeld ?_
    try simp only [Act.put, List.setIfInBounds_toArray, List.set_cons_zero, List.set_cons_succ, List.getElem_toArray, List.getElem_cons_zero, List.getElem_cons_succ]
    refine wpAnyH_take (i := 12) (v := .pointer (some ⟨L, 3, none⟩)) rfl (by kernel_rfl) (by kernel_rfl) (by kernel_rfl) (fun _ _ _ h => h) (Or.inl ⟨by rfl, by intro w hSw; go_simp⟩) hHeld ?_
    try simp only [Act.put, List.setIfInBounds_toArray, List.set_cons_zero, List.set_cons_succ, List.getElem_toArray, List.getElem_cons_zero, List.getElem_cons_succ]
    refine wpAnyH_take (i := 13) (v := .int .i64 d.ver) rfl (by kernel_rfl) (by kernel_rfl) (by kernel_rfl) (fun _ _ _ h => h) (Or.inl ⟨by rfl, by intro w hSw; have q := hSw.1.cells.2.2.2.1; go_simp⟩) hHeld ?_
    try simp only [Act.put, List.setIfInBounds_toArray, List.set_cons_zero, List.set_cons_succ, List.getElem_toArray, List.getElem_cons_zero, List.getElem_cons_succ]
    refine wpAnyH_take (i := 15) (v := .pointer (some ⟨L, 4, none⟩)) rfl (by kernel_rfl) (by kernel_rfl) (by kernel_rfl) (fun _ _ _ h => h) (Or.inl ⟨by rfl, by intro w hSw; go_simp⟩) hHeld ?_
    try simp only [Act.put, List.setIfInBounds_toArray, List.set_cons_zero, List.set_cons_succ, List.getElem_toArray, List.getElem_cons_zero, List.getElem_cons_succ]
    refine wpAnyH_take (i := 16) (v := _) rfl (by kernel_rfl) (by kernel_rfl) (by kernel_rfl) (fun _ _ _ h => h) (yieldsIf_load_mid (by rfl) _ _ rfl _ _ rfl (B d.h) _ (fun w hSw => hSw.1.hash) Tryd.underlying26 rfl hHi.out) hHeld ?_
    try simp only [Act.put, List.setIfInBounds_toArray, List.set_cons_zero, List.set_cons_succ, List.getElem_toArray, List.getElem_cons_zero, List.getElem_cons_succ]
    refine wpAnyH_take (i := 17) (v := .pointer (some ⟨L, 36, none⟩)) rfl (by kernel_rfl) (by kernel_rfl) (by kernel_rfl) (fun _ _ _ h => h) (Or.inl ⟨by rfl, by intro w hSw; go_simp⟩) hHeld ?_
    try simp only [Act.put, List.setIfInBounds_toArray, List.set_cons_zero, List.set_cons_succ, List.getElem_toArray, List.getElem_cons_zero, List.getElem_cons_succ]
    refine wpAnyH_take (i := 18) (v := .int .i64 d.k) rfl (by kernel_rfl) (by kernel_rfl) (by kernel_rfl) (fun _ _ _ h => h) (Or.inl ⟨by rfl, by intro w hSw; have q := hSw.1.cells.2.2.2.2.1; go_simp⟩) hHeld ?_
    try simp only [Act.put, List.setIfInBounds_toArray, List.set_cons_zero, List.set_cons_succ, List.getElem_toArray, List.getElem_cons_zero, List.getElem_cons_succ]
    refine wpAnyH_ready (rs := [3, 22]) (by kernel_rfl) (by simp) ?_
    refine AllReadyH.cons rfl (fun K hK => ?_) (AllReadyH.cons rfl (fun K hK => ?_) (AllReadyH.nil))
    · go_simp
      refine (within8_any _ 3 (by omega) (by omega) _).mono ?_
      rintro _ wz ⟨rfl, hwz⟩
      rw [HE1.out, hwz]
      clear hwz wz
      refine hK.out _ _ (hHeld) (fun hHeld => ?_)
      clear hK K
      try simp only [Act.put, List.setIfInBounds_toArray, List.set_cons_zero, List.set_cons_succ, List.getElem_toArray, List.getElem_cons_zero, List.getElem_cons_succ]
      refine wpAnyH_ready (rs := [7, 22]) (by kernel_rfl) (by simp) ?_
      refine AllReadyH.cons rfl (fun K hK => ?_) (AllReadyH.cons rfl (fun K hK => ?_) (AllReadyH.nil))
      · go_simp
        refine (within8_any _ 8 (by omega) (by omega) _).mono ?_
        rintro _ wz ⟨rfl, hwz⟩
        rw [HE2.out, hwz]
        clear hwz wz
        refine hK.out _ _ (hHeld) (fun hHeld => ?_)
        clear hK K
        try simp only [Act.put, List.setIfInBounds_toArray, List.set_cons_zero, List.set_cons_succ, List.getElem_toArray, List.getElem_cons_zero, List.getElem_cons_succ]
        refine wpAnyH_take (i := 8) (v := .agg #[.int .i64 x1, .int .i64 x2]) rfl (by kernel_rfl) (by kernel_rfl) (by kernel_rfl) (fun _ _ _ h => h) (Or.inl ⟨by rfl, by intro w hSw; go_simp⟩) hHeld ?_
        try simp only [Act.put, List.setIfInBounds_toArray, List.set_cons_zero, List.set_cons_succ, List.getElem_toArray, List.getElem_cons_zero, List.getElem_cons_succ]
        refine wpAnyH_ready (rs := [11, 22]) (by kernel_rfl) (by simp) ?_
        refine AllReadyH.cons rfl (fun K hK => ?_) (AllReadyH.cons rfl (fun K hK => ?_) (AllReadyH.nil))
        · go_simp
          refine (within8_any _ 1073741825 (by omega) (by omega) _).mono ?_
          rintro _ wz ⟨rfl, hwz⟩
          rw [HE3.out, hwz]
          clear hwz wz
          refine hK.out _ _ (hHeld) (fun hHeld => ?_)
          clear hK K
          try simp only [Act.put, List.setIfInBounds_toArray, List.set_cons_zero, List.set_cons_succ, List.getElem_toArray, List.getElem_cons_zero, List.getElem_cons_succ]
          refine wpAnyH_ready (rs := [14, 22]) (by kernel_rfl) (by simp) ?_
          refine AllReadyH.cons rfl (fun K hK => ?_) (AllReadyH.cons rfl (fun K hK => ?_) (AllReadyH.nil))
          · go_simp
            refine (within8_any _ 1048577 (by omega) (by omega) _).mono ?_
            rintro _ wz ⟨rfl, hwz⟩
            rw [HE4.out, hwz]
            clear hwz wz
            refine hK.out _ _ (hHeld) (fun hHeld => ?_)
            clear hK K
            try simp only [Act.put, List.setIfInBounds_toArray, List.set_cons_zero, List.set_cons_succ, List.getElem_toArray, List.getElem_cons_zero, List.getElem_cons_succ]
            refine wpAnyH_ready (rs := [19, 22]) (by kernel_rfl) (by simp) ?_
            refine AllReadyH.cons rfl (fun K hK => ?_) (AllReadyH.cons rfl (fun K hK => ?_) (AllReadyH.nil))
            · go_simp
              refine (within8_any _ 3 (by omega) (by omega) _).mono ?_
              rintro _ wz ⟨rfl, hwz⟩
              rw [HE5.out, hwz]
              clear hwz wz
              refine hK.out _ _ (hHeld) (fun hHeld => ?_)
              clear hK K
              try simp only [Act.put, List.setIfInBounds_toArray, List.set_cons_zero, List.set_cons_succ, List.getElem_toArray, List.getElem_cons_zero, List.getElem_cons_succ]
              refine wpAnyH_take (i := 20) (v := .int .i64 (1 + x5)) rfl (by kernel_rfl) (by kernel_rfl) (by kernel_rfl) (fun _ _ _ h => h) (Or.inl ⟨by rfl, by intro w hSw; have q := HWU.out; go_simp⟩) hHeld ?_
              try simp only [Act.put, List.setIfInBounds_toArray, List.set_cons_zero, List.set_cons_succ, List.getElem_toArray, List.getElem_cons_zero, List.getElem_cons_succ]
              refine wpAnyH_take (i := 21) (v := .agg gs.toArray) rfl (by kernel_rfl) (by kernel_rfl) (by kernel_rfl) (fun _ _ _ h => h) (yields_build (by rfl) 30 #[(0, .tmp 16), (1, .tmp 19), (2, .tmp 22), (3, .tmp 24), (4, .tmp 28)] rfl #[(0, .agg #[.int .i64 x1, .int .i64 x2]), (1, .int .i64 x3), (2, .int .i64 x4), (3, .agg (B d.h).toArray), (4, .int .i64 (1 + x5))] (by first | rfl | simp [Act.eval]) gs.toArray HBD.out) hHeld ?_
              try simp only [Act.put, List.setIfInBounds_toArray, List.set_cons_zero, List.set_cons_succ, List.getElem_toArray, List.getElem_cons_zero, List.getElem_cons_succ]
              refine wpAnyH_ready (rs := [22]) (by kernel_rfl) (by simp) ?_
              refine AllReadyH.cons rfl (fun K hK => ?_) (AllReadyH.nil)
              refine Eq.mpr (if_pos (by rfl)) ?_
              refine wp_alloc_blk 30 rfl _ HZ.out (L + 2) hz2 ?_
              intro w3 hB3 hb3 hz3
              have hHeld3 : DW w3 30 L d (.slice av o.length cv) ∧ Below L w w3 := ⟨hHeld.1.kept (hb3.block L (by omega)), hHeld.2.trans (hb3.mono (by omega))⟩
              have HB3 := hid hB3
              have HC3 := hid (HB2.out.kept (hb3.block (L + 1) (by omega)))
              clear hB3 hb3 hHeld
              refine hK.out _ _ (hHeld3) (fun hHeld => ?_)
              clear hK K hHeld3
              try simp only [Act.put, List.setIfInBounds_toArray, List.set_cons_zero, List.set_cons_succ, List.getElem_toArray, List.getElem_cons_zero, List.getElem_cons_succ]
              refine wpAnyH_ready (rs := [23]) (by kernel_rfl) (by simp) ?_
              refine AllReadyH.cons rfl (fun K hK => ?_) (AllReadyH.nil)
              refine Eq.mpr (if_pos (by rfl)) ?_
              refine wp_store_list 30 _ _ rfl (L + 2) 0 gs rfl rfl (HB3.out.there (by rw [HGL.out, Dl.len Dl.zero_len]; omega)) (by rw [HGL.out]; exact HI.out) HGO.out ?_
              intro w4 hw4
              have HX := hid (show w4.heap.size = L + 3 ∧ DW w4 30 L d (.slice av o.length cv) ∧ Blk w4 30 (L + 1) (Dl.zero.cells (.slice none 0 0)) ∧ Blk w4 30 (L + 2) gs ∧ Below L w w4 by
                rw [hw4]
                refine ⟨by rw [setCells_sz]; exact hz3, hHeld.1.kept (setCells_heap (by omega) _ _ _), HC3.out.kept (setCells_heap (by omega) _ _ _), ?_, below_setCells (by omega) _ _ hHeld.2⟩
                have h1 := Blk.setCells gs [] (Dl.zero.cells (.slice none 0 0)) [] (o := 0) (by simpa using HB3.out) (by rw [HGL.out, Dl.len Dl.zero_len]) rfl
                simpa using h1)
              clear hw4
              refine hK.out _ _ (⟨HX.out.2.1, HX.out.2.2.2.2⟩) (fun hHeld => ?_)
              clear hK K
              try simp only [Act.put, List.setIfInBounds_toArray, List.set_cons_zero, List.set_cons_succ, List.getElem_toArray, List.getElem_cons_zero, List.getElem_cons_succ]
              refine wpAnyH_done (by kernel_rfl) ?_ _
              go_wp2_with fail
              go_meet
              exact ⟨rfl, HX.out⟩
            · refine Eq.mpr (if_pos (by rfl)) ?_
              refine wp_alloc_blk 30 rfl _ HZ.out (L + 2) hz2 ?_
              intro w3 hB3 hb3 hz3
              have hHeld3 : DW w3 30 L d (.slice av o.length cv) ∧ Below L w w3 := ⟨hHeld.1.kept (hb3.block L (by omega)), hHeld.2.trans (hb3.mono (by omega))⟩
              have HB3 := hid hB3
              have HC3 := hid (HB2.out.kept (hb3.block (L + 1) (by omega)))
              clear hB3 hb3 hHeld
              refine hK.out _ _ (hHeld3) (fun hHeld => ?_)
              clear hK K hHeld3
              try simp only [Act.put, List.setIfInBounds_toArray, List.set_cons_zero, List.set_cons_succ, List.getElem_toArray, List.getElem_cons_zero, List.getElem_cons_succ]
              refine wpAnyH_ready (rs := [19]) (by kernel_rfl) (by simp) ?_
              refine AllReadyH.cons rfl (fun K hK => ?_) (AllReadyH.nil)
              go_simp
              refine (within8_any _ 3 (by omega) (by omega) _).mono ?_
              rintro _ wz ⟨rfl, hwz⟩
              rw [HE5.out, hwz]
              clear hwz wz
              refine hK.out _ _ (hHeld) (fun hHeld => ?_)
              clear hK K
              try simp only [Act.put, List.setIfInBounds_toArray, List.set_cons_zero, List.set_cons_succ, List.getElem_toArray, List.getElem_cons_zero, List.getElem_cons_succ]
              refine wpAnyH_take (i := 20) (v := .int .i64 (1 + x5)) rfl (by kernel_rfl) (by kernel_rfl) (by kernel_rfl) (fun _ _ _ h => h) (Or.inl ⟨by rfl, by intro w hSw; have q := HWU.out; go_simp⟩) hHeld ?_
              try simp only [Act.put, List.setIfInBounds_toArray, List.set_cons_zero, List.set_cons_succ, List.getElem_toArray, List.getElem_cons_zero, List.getElem_cons_succ]
              refine wpAnyH_take (i := 21) (v := .agg gs.toArray) rfl (by kernel_rfl) (by kernel_rfl) (by kernel_rfl) (fun _ _ _ h => h) (yields_build (by rfl) 30 #[(0, .tmp 16), (1, .tmp 19), (2, .tmp 22), (3, .tmp 24), (4, .tmp 28)] rfl #[(0, .agg #[.int .i64 x1, .int .i64 x2]), (1, .int .i64 x3), (2, .int .i64 x4), (3, .agg (B d.h).toArray), (4, .int .i64 (1 + x5))] (by first | rfl | simp [Act.eval]) gs.toArray HBD.out) hHeld ?_
              try simp only [Act.put, List.setIfInBounds_toArray, List.set_cons_zero, List.set_cons_succ, List.getElem_toArray, List.getElem_cons_zero, List.getElem_cons_succ]
              refine wpAnyH_ready (rs := [23]) (by kernel_rfl) (by simp) ?_
              refine AllReadyH.cons rfl (fun K hK => ?_) (AllReadyH.nil)
              refine Eq.mpr (if_pos (by rfl)) ?_
              refine wp_store_list 30 _ _ rfl (L + 2) 0 gs rfl rfl (HB3.out.there (by rw [HGL.out, Dl.len Dl.zero_len]; omega)) (by rw [HGL.out]; exact HI.out) HGO.out ?_
              intro w4 hw4
              have HX := hid (show w4.heap.size = L + 3 ∧ DW w4 30 L d (.slice av o.length cv) ∧ Blk w4 30 (L + 1) (Dl.zero.cells (.slice none 0 0)) ∧ Blk w4 30 (L + 2) gs ∧ Below L w w4 by
                rw [hw4]
                refine ⟨by rw [setCells_sz]; exact hz3, hHeld.1.kept (setCells_heap (by omega) _ _ _), HC3.out.kept (setCells_heap (by omega) _ _ _), ?_, below_setCells (by omega) _ _ hHeld.2⟩
                have h1 := Blk.setCells gs [] (Dl.zero.cells (.slice none 0 0)) [] (o := 0) (by simpa using HB3.out) (by rw [HGL.out, Dl.len Dl.zero_len]) rfl
                simpa using h1)
              clear hw4
              refine hK.out _ _ (⟨HX.out.2.1, HX.out.2.2.2.2⟩) (fun hHeld => ?_)
              clear hK K
              try simp only [Act.put, List.setIfInBounds_toArray, List.set_cons_zero, List.set_cons_succ, List.getElem_toArray, List.getElem_cons_zero, List.getElem_cons_succ]
              refine wpAnyH_done (by kernel_rfl) ?_ _
              go_wp2_with fail
              go_meet
              exact ⟨rfl, HX.out⟩
          · refine Eq.mpr (if_pos (by rfl)) ?_
            refine wp_alloc_blk 30 rfl _ HZ.out (L + 2) hz2 ?_
            intro w3 hB3 hb3 hz3
            have hHeld3 : DW w3 30 L d (.slice av o.length cv) ∧ Below L w w3 := ⟨hHeld.1.kept (hb3.block L (by omega)), hHeld.2.trans (hb3.mono (by omega))⟩
            have HB3 := hid hB3
            have HC3 := hid (HB2.out.kept (hb3.block (L + 1) (by omega)))
            clear hB3 hb3 hHeld
            refine hK.out _ _ (hHeld3) (fun hHeld => ?_)
            clear hK K hHeld3
            try simp only [Act.put, List.setIfInBounds_toArray, List.set_cons_zero, List.set_cons_succ, List.getElem_toArray, List.getElem_cons_zero, List.getElem_cons_succ]
            refine wpAnyH_ready (rs := [14]) (by kernel_rfl) (by simp) ?_
            refine AllReadyH.cons rfl (fun K hK => ?_) (AllReadyH.nil)
            go_simp
            refine (within8_any _ 1048577 (by omega) (by omega) _).mono ?_
            rintro _ wz ⟨rfl, hwz⟩
            rw [HE4.out, hwz]
            clear hwz wz
            refine hK.out _ _ (hHeld) (fun hHeld => ?_)
            clear hK K
            try simp only [Act.put, List.setIfInBounds_toArray, List.set_cons_zero, List.set_cons_succ, List.getElem_toArray, List.getElem_cons_zero, List.getElem_cons_succ]
            refine wpAnyH_ready (rs := [19]) (by kernel_rfl) (by simp) ?_
            refine AllReadyH.cons rfl (fun K hK => ?_) (AllReadyH.nil)
            go_simp
            refine (within8_any _ 3 (by omega) (by omega) _).mono ?_
            rintro _ wz ⟨rfl, hwz⟩
            rw [HE5.out, hwz]
            clear hwz wz
            refine hK.out _ _ (hHeld) (fun hHeld => ?_)
            clear hK K
            try simp only [Act.put, List.setIfInBounds_toArray, List.set_cons_zero, List.set_cons_succ, List.getElem_toArray, List.getElem_cons_zero, List.getElem_cons_succ]
            refine wpAnyH_take (i := 20) (v := .int .i64 (1 + x5)) rfl (by kernel_rfl) (by kernel_rfl) (by kernel_rfl) (fun _ _ _ h => h) (Or.inl ⟨by rfl, by intro w hSw; have q := HWU.out; go_simp⟩) hHeld ?_
            try simp only [Act.put, List.setIfInBounds_toArray, List.set_cons_zero, List.set_cons_succ, List.getElem_toArray, List.getElem_cons_zero, List.getElem_cons_succ]
            refine wpAnyH_take (i := 21) (v := .agg gs.toArray) rfl (by kernel_rfl) (by kernel_rfl) (by kernel_rfl) (fun _ _ _ h => h) (yields_build (by rfl) 30 #[(0, .tmp 16), (1, .tmp 19), (2, .tmp 22), (3, .tmp 24), (4, .tmp 28)] rfl #[(0, .agg #[.int .i64 x1, .int .i64 x2]), (1, .int .i64 x3), (2, .int .i64 x4), (3, .agg (B d.h).toArray), (4, .int .i64 (1 + x5))] (by first | rfl | simp [Act.eval]) gs.toArray HBD.out) hHeld ?_
            try simp only [Act.put, List.setIfInBounds_toArray, List.set_cons_zero, List.set_cons_succ, List.getElem_toArray, List.getElem_cons_zero, List.getElem_cons_succ]
            refine wpAnyH_ready (rs := [23]) (by kernel_rfl) (by simp) ?_
            refine AllReadyH.cons rfl (fun K hK => ?_) (AllReadyH.nil)
            refine Eq.mpr (if_pos (by rfl)) ?_
            refine wp_store_list 30 _ _ rfl (L + 2) 0 gs rfl rfl (HB3.out.there (by rw [HGL.out, Dl.len Dl.zero_len]; omega)) (by rw [HGL.out]; exact HI.out) HGO.out ?_
            intro w4 hw4
            have HX := hid (show w4.heap.size = L + 3 ∧ DW w4 30 L d (.slice av o.length cv) ∧ Blk w4 30 (L + 1) (Dl.zero.cells (.slice none 0 0)) ∧ Blk w4 30 (L + 2) gs ∧ Below L w w4 by
              rw [hw4]
              refine ⟨by rw [setCells_sz]; exact hz3, hHeld.1.kept (setCells_heap (by omega) _ _ _), HC3.out.kept (setCells_heap (by omega) _ _ _), ?_, below_setCells (by omega) _ _ hHeld.2⟩
              have h1 := Blk.setCells gs [] (Dl.zero.cells (.slice none 0 0)) [] (o := 0) (by simpa using HB3.out) (by rw [HGL.out, Dl.len Dl.zero_len]) rfl
              simpa using h1)
            clear hw4
            refine hK.out _ _ (⟨HX.out.2.1, HX.out.2.2.2.2⟩) (fun hHeld => ?_)
            clear hK K
            try simp only [Act.put, List.setIfInBounds_toArray, List.set_cons_zero, List.set_cons_succ, List.getElem_toArray, List.getElem_cons_zero, List.getElem_cons_succ]
            refine wpAnyH_done (by kernel_rfl) ?_ _
            go_wp2_with fail
            go_meet
            exact ⟨rfl, HX.out⟩
        · refine Eq.mpr (if_pos (by rfl)) ?_
          refine wp_alloc_blk 30 rfl _ HZ.out (L + 2) hz2 ?_
          intro w3 hB3 hb3 hz3
          have hHeld3 : DW w3 30 L d (.slice av o.length cv) ∧ Below L w w3 := ⟨hHeld.1.kept (hb3.block L (by omega)), hHeld.2.trans (hb3.mono (by omega))⟩
          have HB3 := hid hB3
          have HC3 := hid (HB2.out.kept (hb3.block (L + 1) (by omega)))
          clear hB3 hb3 hHeld
          refine hK.out _ _ (hHeld3) (fun hHeld => ?_)
          clear hK K hHeld3
          try simp only [Act.put, List.setIfInBounds_toArray, List.set_cons_zero, List.set_cons_succ, List.getElem_toArray, List.getElem_cons_zero, List.getElem_cons_succ]
          refine wpAnyH_ready (rs := [11]) (by kernel_rfl) (by simp) ?_
          refine AllReadyH.cons rfl (fun K hK => ?_) (AllReadyH.nil)
          go_simp
          refine (within8_any _ 1073741825 (by omega) (by omega) _).mono ?_
          rintro _ wz ⟨rfl, hwz⟩
          rw [HE3.out, hwz]
          clear hwz wz
          refine hK.out _ _ (hHeld) (fun hHeld => ?_)
          clear hK K
          try simp only [Act.put, List.setIfInBounds_toArray, List.set_cons_zero, List.set_cons_succ, List.getElem_toArray, List.getElem_cons_zero, List.getElem_cons_succ]
          refine wpAnyH_ready (rs := [14]) (by kernel_rfl) (by simp) ?_
          refine AllReadyH.cons rfl (fun K hK => ?_) (AllReadyH.nil)
          go_simp
          refine (within8_any _ 1048577 (by omega) (by omega) _).mono ?_
          rintro _ wz ⟨rfl, hwz⟩
          rw [HE4.out, hwz]
          clear hwz wz
          refine hK.out _ _ (hHeld) (fun hHeld => ?_)
          clear hK K
          try simp only [Act.put, List.setIfInBounds_toArray, List.set_cons_zero, List.set_cons_succ, List.getElem_toArray, List.getElem_cons_zero, List.getElem_cons_succ]
          refine wpAnyH_ready (rs := [19]) (by kernel_rfl) (by simp) ?_
          refine AllReadyH.cons rfl (fun K hK => ?_) (AllReadyH.nil)
          go_simp
          refine (within8_any _ 3 (by omega) (by omega) _).mono ?_
          rintro _ wz ⟨rfl, hwz⟩
          rw [HE5.out, hwz]
          clear hwz wz
          refine hK.out _ _ (hHeld) (fun hHeld => ?_)
          clear hK K
          try simp only [Act.put, List.setIfInBounds_toArray, List.set_cons_zero, List.set_cons_succ, List.getElem_toArray, List.getElem_cons_zero, List.getElem_cons_succ]
          refine wpAnyH_take (i := 20) (v := .int .i64 (1 + x5)) rfl (by kernel_rfl) (by kernel_rfl) (by kernel_rfl) (fun _ _ _ h => h) (Or.inl ⟨by rfl, by intro w hSw; have q := HWU.out; go_simp⟩) hHeld ?_
          try simp only [Act.put, List.setIfInBounds_toArray, List.set_cons_zero, List.set_cons_succ, List.getElem_toArray, List.getElem_cons_zero, List.getElem_cons_succ]
          refine wpAnyH_take (i := 21) (v := .agg gs.toArray) rfl (by kernel_rfl) (by kernel_rfl) (by kernel_rfl) (fun _ _ _ h => h) (yields_build (by rfl) 30 #[(0, .tmp 16), (1, .tmp 19), (2, .tmp 22), (3, .tmp 24), (4, .tmp 28)] rfl #[(0, .agg #[.int .i64 x1, .int .i64 x2]), (1, .int .i64 x3), (2, .int .i64 x4), (3, .agg (B d.h).toArray), (4, .int .i64 (1 + x5))] (by first | rfl | simp [Act.eval]) gs.toArray HBD.out) hHeld ?_
          try simp only [Act.put, List.setIfInBounds_toArray, List.set_cons_zero, List.set_cons_succ, List.getElem_toArray, List.getElem_cons_zero, List.getElem_cons_succ]
          refine wpAnyH_ready (rs := [23]) (by kernel_rfl) (by simp) ?_
          refine AllReadyH.cons rfl (fun K hK => ?_) (AllReadyH.nil)
          refine Eq.mpr (if_pos (by rfl)) ?_
          refine wp_store_list 30 _ _ rfl (L + 2) 0 gs rfl rfl (HB3.out.there (by rw [HGL.out, Dl.len Dl.zero_len]; omega)) (by rw [HGL.out]; exact HI.out) HGO.out ?_
          intro w4 hw4
          have HX := hid (show w4.heap.size = L + 3 ∧ DW w4 30 L d (.slice av o.length cv) ∧ Blk w4 30 (L + 1) (Dl.zero.cells (.slice none 0 0)) ∧ Blk w4 30 (L + 2) gs ∧ Below L w w4 by
            rw [hw4]
            refine ⟨by rw [setCells_sz]; exact hz3, hHeld.1.kept (setCells_heap (by omega) _ _ _), HC3.out.kept (setCells_heap (by omega) _ _ _), ?_, below_setCells (by omega) _ _ hHeld.2⟩
            have h1 := Blk.setCells gs [] (Dl.zero.cells (.slice none 0 0)) [] (o := 0) (by simpa using HB3.out) (by rw [HGL.out, Dl.len Dl.zero_len]) rfl
            simpa using h1)
          clear hw4
          refine hK.out _ _ (⟨HX.out.2.1, HX.out.2.2.2.2⟩) (fun hHeld => ?_)
          clear hK K
          try simp only [Act.put, List.setIfInBounds_toArray, List.set_cons_zero, List.set_cons_succ, List.getElem_toArray, List.getElem_cons_zero, List.getElem_cons_succ]
          refine wpAnyH_done (by kernel_rfl) ?_ _
          go_wp2_with fail
          go_meet
          exact ⟨rfl, HX.out⟩
      · refine Eq.mpr (if_pos (by rfl)) ?_
        refine wp_alloc_blk 30 rfl _ HZ.out (L + 2) hz2 ?_
        intro w3 hB3 hb3 hz3
        have hHeld3 : DW w3 30 L d (.slice av o.length cv) ∧ Below L w w3 := ⟨hHeld.1.kept (hb3.block L (by omega)), hHeld.2.trans (hb3.mono (by omega))⟩
        have HB3 := hid hB3
        have HC3 := hid (HB2.out.kept (hb3.block (L + 1) (by omega)))
        clear hB3 hb3 hHeld
        refine hK.out _ _ (hHeld3) (fun hHeld => ?_)
        clear hK K hHeld3
        try simp only [Act.put, List.setIfInBounds_toArray, List.set_cons_zero, List.set_cons_succ, List.getElem_toArray, List.getElem_cons_zero, List.getElem_cons_succ]
        refine wpAnyH_ready (rs := [7]) (by kernel_rfl) (by simp) ?_
        refine AllReadyH.cons rfl (fun K hK => ?_) (AllReadyH.nil)
        go_simp
        refine (within8_any _ 8 (by omega) (by omega) _).mono ?_
        rintro _ wz ⟨rfl, hwz⟩
        rw [HE2.out, hwz]
        clear hwz wz
        refine hK.out _ _ (hHeld) (fun hHeld => ?_)
        clear hK K
        try simp only [Act.put, List.setIfInBounds_toArray, List.set_cons_zero, List.set_cons_succ, List.getElem_toArray, List.getElem_cons_zero, List.getElem_cons_succ]
        refine wpAnyH_take (i := 8) (v := .agg #[.int .i64 x1, .int .i64 x2]) rfl (by kernel_rfl) (by kernel_rfl) (by kernel_rfl) (fun _ _ _ h => h) (Or.inl ⟨by rfl, by intro w hSw; go_simp⟩) hHeld ?_
        try simp only [Act.put, List.setIfInBounds_toArray, List.set_cons_zero, List.set_cons_succ, List.getElem_toArray, List.getElem_cons_zero, List.getElem_cons_succ]
        refine wpAnyH_ready (rs := [11]) (by kernel_rfl) (by simp) ?_
        refine AllReadyH.cons rfl (fun K hK => ?_) (AllReadyH.nil)
        go_simp
        refine (within8_any _ 1073741825 (by omega) (by omega) _).mono ?_
        rintro _ wz ⟨rfl, hwz⟩
        rw [HE3.out, hwz]
        clear hwz wz
        refine hK.out _ _ (hHeld) (fun hHeld => ?_)
        clear hK K
        try simp only [Act.put, List.setIfInBounds_toArray, List.set_cons_zero, List.set_cons_succ, List.getElem_toArray, List.getElem_cons_zero, List.getElem_cons_succ]
        refine wpAnyH_ready (rs := [14]) (by kernel_rfl) (by simp) ?_
        refine AllReadyH.cons rfl (fun K hK => ?_) (AllReadyH.nil)
        go_simp
        refine (within8_any _ 1048577 (by omega) (by omega) _).mono ?_
        rintro _ wz ⟨rfl, hwz⟩
        rw [HE4.out, hwz]
        clear hwz wz
        refine hK.out _ _ (hHeld) (fun hHeld => ?_)
        clear hK K
        try simp only [Act.put, List.setIfInBounds_toArray, List.set_cons_zero, List.set_cons_succ, List.getElem_toArray, List.getElem_cons_zero, List.getElem_cons_succ]
        refine wpAnyH_ready (rs := [19]) (by kernel_rfl) (by simp) ?_
        refine AllReadyH.cons rfl (fun K hK => ?_) (AllReadyH.nil)
        go_simp
        refine (within8_any _ 3 (by omega) (by omega) _).mono ?_
        rintro _ wz ⟨rfl, hwz⟩
        rw [HE5.out, hwz]
        clear hwz wz
        refine hK.out _ _ (hHeld) (fun hHeld => ?_)
        clear hK K
        try simp only [Act.put, List.setIfInBounds_toArray, List.set_cons_zero, List.set_cons_succ, List.getElem_toArray, List.getElem_cons_zero, List.getElem_cons_succ]
        refine wpAnyH_take (i := 20) (v := .int .i64 (1 + x5)) rfl (by kernel_rfl) (by kernel_rfl) (by kernel_rfl) (fun _ _ _ h => h) (Or.inl ⟨by rfl, by intro w hSw; have q := HWU.out; go_simp⟩) hHeld ?_
        try simp only [Act.put, List.setIfInBounds_toArray, List.set_cons_zero, List.set_cons_succ, List.getElem_toArray, List.getElem_cons_zero, List.getElem_cons_succ]
        refine wpAnyH_take (i := 21) (v := .agg gs.toArray) rfl (by kernel_rfl) (by kernel_rfl) (by kernel_rfl) (fun _ _ _ h => h) (yields_build (by rfl) 30 #[(0, .tmp 16), (1, .tmp 19), (2, .tmp 22), (3, .tmp 24), (4, .tmp 28)] rfl #[(0, .agg #[.int .i64 x1, .int .i64 x2]), (1, .int .i64 x3), (2, .int .i64 x4), (3, .agg (B d.h).toArray), (4, .int .i64 (1 + x5))] (by first | rfl | simp [Act.eval]) gs.toArray HBD.out) hHeld ?_
        try simp only [Act.put, List.setIfInBounds_toArray, List.set_cons_zero, List.set_cons_succ, List.getElem_toArray, List.getElem_cons_zero, List.getElem_cons_succ]
        refine wpAnyH_ready (rs := [23]) (by kernel_rfl) (by simp) ?_
        refine AllReadyH.cons rfl (fun K hK => ?_) (AllReadyH.nil)
        refine Eq.mpr (if_pos (by rfl)) ?_
        refine wp_store_list 30 _ _ rfl (L + 2) 0 gs rfl rfl (HB3.out.there (by rw [HGL.out, Dl.len Dl.zero_len]; omega)) (by rw [HGL.out]; exact HI.out) HGO.out ?_
        intro w4 hw4
        have HX := hid (show w4.heap.size = L + 3 ∧ DW w4 30 L d (.slice av o.length cv) ∧ Blk w4 30 (L + 1) (Dl.zero.cells (.slice none 0 0)) ∧ Blk w4 30 (L + 2) gs ∧ Below L w w4 by
          rw [hw4]
          refine ⟨by rw [setCells_sz]; exact hz3, hHeld.1.kept (setCells_heap (by omega) _ _ _), HC3.out.kept (setCells_heap (by omega) _ _ _), ?_, below_setCells (by omega) _ _ hHeld.2⟩
          have h1 := Blk.setCells gs [] (Dl.zero.cells (.slice none 0 0)) [] (o := 0) (by simpa using HB3.out) (by rw [HGL.out, Dl.len Dl.zero_len]) rfl
          simpa using h1)
        clear hw4
        refine hK.out _ _ (⟨HX.out.2.1, HX.out.2.2.2.2⟩) (fun hHeld => ?_)
        clear hK K
        try simp only [Act.put, List.setIfInBounds_toArray, List.set_cons_zero, List.set_cons_succ, List.getElem_toArray, List.getElem_cons_zero, List.getElem_cons_succ]
        refine wpAnyH_done (by kernel_rfl) ?_ _
        go_wp2_with fail
        go_meet
        exact ⟨rfl, HX.out⟩
    · refine Eq.mpr (if_pos (by rfl)) ?_
      refine wp_alloc_blk 30 rfl _ HZ.out (L + 2) hz2 ?_
      intro w3 hB3 hb3 hz3
      have hHeld3 : DW w3 30 L d (.slice av o.length cv) ∧ Below L w w3 := ⟨hHeld.1.kept (hb3.block L (by omega)), hHeld.2.trans (hb3.mono (by omega))⟩
      have HB3 := hid hB3
      have HC3 := hid (HB2.out.kept (hb3.block (L + 1) (by omega)))
      clear hB3 hb3 hHeld
      refine hK.out _ _ (hHeld3) (fun hHeld => ?_)
      clear hK K hHeld3
      try simp only [Act.put, List.setIfInBounds_toArray, List.set_cons_zero, List.set_cons_succ, List.getElem_toArray, List.getElem_cons_zero, List.getElem_cons_succ]
      refine wpAnyH_ready (rs := [3]) (by kernel_rfl) (by simp) ?_
      refine AllReadyH.cons rfl (fun K hK => ?_) (AllReadyH.nil)
      go_simp
      refine (within8_any _ 3 (by omega) (by omega) _).mono ?_
      rintro _ wz ⟨rfl, hwz⟩
      rw [HE1.out, hwz]
      clear hwz wz
      refine hK.out _ _ (hHeld) (fun hHeld => ?_)
      clear hK K
      try simp only [Act.put, List.setIfInBounds_toArray, List.set_cons_zero, List.set_cons_succ, List.getElem_toArray, List.getElem_cons_zero, List.getElem_cons_succ]
      refine wpAnyH_ready (rs := [7]) (by kernel_rfl) (by simp) ?_
      refine AllReadyH.cons rfl (fun K hK => ?_) (AllReadyH.nil)
      go_simp
      refine (within8_any _ 8 (by omega) (by omega) _).mono ?_
      rintro _ wz ⟨rfl, hwz⟩
      rw [HE2.out, hwz]
      clear hwz wz
      refine hK.out _ _ (hHeld) (fun hHeld => ?_)
      clear hK K
      try simp only [Act.put, List.setIfInBounds_toArray, List.set_cons_zero, List.set_cons_succ, List.getElem_toArray, List.getElem_cons_zero, List.getElem_cons_succ]
      refine wpAnyH_take (i := 8) (v := .agg #[.int .i64 x1, .int .i64 x2]) rfl (by kernel_rfl) (by kernel_rfl) (by kernel_rfl) (fun _ _ _ h => h) (Or.inl ⟨by rfl, by intro w hSw; go_simp⟩) hHeld ?_
      try simp only [Act.put, List.setIfInBounds_toArray, List.set_cons_zero, List.set_cons_succ, List.getElem_toArray, List.getElem_cons_zero, List.getElem_cons_succ]
      refine wpAnyH_ready (rs := [11]) (by kernel_rfl) (by simp) ?_
      refine AllReadyH.cons rfl (fun K hK => ?_) (AllReadyH.nil)
      go_simp
      refine (within8_any _ 1073741825 (by omega) (by omega) _).mono ?_
      rintro _ wz ⟨rfl, hwz⟩
      rw [HE3.out, hwz]
      clear hwz wz
      refine hK.out _ _ (hHeld) (fun hHeld => ?_)
      clear hK K
      try simp only [Act.put, List.setIfInBounds_toArray, List.set_cons_zero, List.set_cons_succ, List.getElem_toArray, List.getElem_cons_zero, List.getElem_cons_succ]
      refine wpAnyH_ready (rs := [14]) (by kernel_rfl) (by simp) ?_
      refine AllReadyH.cons rfl (fun K hK => ?_) (AllReadyH.nil)
      go_simp
      refine (within8_any _ 1048577 (by omega) (by omega) _).mono ?_
      rintro _ wz ⟨rfl, hwz⟩
      rw [HE4.out, hwz]
      clear hwz wz
      refine hK.out _ _ (hHeld) (fun hHeld => ?_)
      clear hK K
      try simp only [Act.put, List.setIfInBounds_toArray, List.set_cons_zero, List.set_cons_succ, List.getElem_toArray, List.getElem_cons_zero, List.getElem_cons_succ]
      refine wpAnyH_ready (rs := [19]) (by kernel_rfl) (by simp) ?_
      refine AllReadyH.cons rfl (fun K hK => ?_) (AllReadyH.nil)
      go_simp
      refine (within8_any _ 3 (by omega) (by omega) _).mono ?_
      rintro _ wz ⟨rfl, hwz⟩
      rw [HE5.out, hwz]
      clear hwz wz
      refine hK.out _ _ (hHeld) (fun hHeld => ?_)
      clear hK K
      try simp only [Act.put, List.setIfInBounds_toArray, List.set_cons_zero, List.set_cons_succ, List.getElem_toArray, List.getElem_cons_zero, List.getElem_cons_succ]
      refine wpAnyH_take (i := 20) (v := .int .i64 (1 + x5)) rfl (by kernel_rfl) (by kernel_rfl) (by kernel_rfl) (fun _ _ _ h => h) (Or.inl ⟨by rfl, by intro w hSw; have q := HWU.out; go_simp⟩) hHeld ?_
      try simp only [Act.put, List.setIfInBounds_toArray, List.set_cons_zero, List.set_cons_succ, List.getElem_toArray, List.getElem_cons_zero, List.getElem_cons_succ]
      refine wpAnyH_take (i := 21) (v := .agg gs.toArray) rfl (by kernel_rfl) (by kernel_rfl) (by kernel_rfl) (fun _ _ _ h => h) (yields_build (by rfl) 30 #[(0, .tmp 16), (1, .tmp 19), (2, .tmp 22), (3, .tmp 24), (4, .tmp 28)] rfl #[(0, .agg #[.int .i64 x1, .int .i64 x2]), (1, .int .i64 x3), (2, .int .i64 x4), (3, .agg (B d.h).toArray), (4, .int .i64 (1 + x5))] (by first | rfl | simp [Act.eval]) gs.toArray HBD.out) hHeld ?_
      try simp only [Act.put, List.setIfInBounds_toArray, List.set_cons_zero, List.set_cons_succ, List.getElem_toArray, List.getElem_cons_zero, List.getElem_cons_succ]
      refine wpAnyH_ready (rs := [23]) (by kernel_rfl) (by simp) ?_
      refine AllReadyH.cons rfl (fun K hK => ?_) (AllReadyH.nil)
      refine Eq.mpr (if_pos (by rfl)) ?_
      refine wp_store_list 30 _ _ rfl (L + 2) 0 gs rfl rfl (HB3.out.there (by rw [HGL.out, Dl.len Dl.zero_len]; omega)) (by rw [HGL.out]; exact HI.out) HGO.out ?_
      intro w4 hw4
      have HX := hid (show w4.heap.size = L + 3 ∧ DW w4 30 L d (.slice av o.length cv) ∧ Blk w4 30 (L + 1) (Dl.zero.cells (.slice none 0 0)) ∧ Blk w4 30 (L + 2) gs ∧ Below L w w4 by
        rw [hw4]
        refine ⟨by rw [setCells_sz]; exact hz3, hHeld.1.kept (setCells_heap (by omega) _ _ _), HC3.out.kept (setCells_heap (by omega) _ _ _), ?_, below_setCells (by omega) _ _ hHeld.2⟩
        have h1 := Blk.setCells gs [] (Dl.zero.cells (.slice none 0 0)) [] (o := 0) (by simpa using HB3.out) (by rw [HGL.out, Dl.len Dl.zero_len]) rfl
        simpa using h1)
      clear hw4
      refine hK.out _ _ (⟨HX.out.2.1, HX.out.2.2.2.2⟩) (fun hHeld => ?_)
      clear hK K
      try simp only [Act.put, List.setIfInBounds_toArray, List.set_cons_zero, List.set_cons_succ, List.getElem_toArray, List.getElem_cons_zero, List.getElem_cons_succ]
      refine wpAnyH_done (by kernel_rfl) ?_ _
      go_wp2_with fail
      go_meet
      exact ⟨rfl, HX.out⟩
  case rest =>
  obtain ⟨rfl, hz3, hW, hB1, hB2, hb⟩ := hcut
  have HG3 := hid (show DW wc 30 (L + 2) ⟨x1, x2, x3, x4, d.h, 1 + x5, 0, 0⟩ (.slice none 0 0) from ⟨HD.out, by rw [HGS.out]; exact hB2⟩)
  have HW3 := hid hW
  have HZ3 := hid hB1
  have Hb3 := hid hb
  clear hW hB1 hB2 hb HS2 HB2 hz2
  obtain ⟨c0, c1, c2, c3, c36, c37, c38, c39⟩ := HG3.out.cells
  clear c0 c1 c2 c3 c38 c39
  by_cases h0 : x5 = 0
  · subst h0
    have f37 := HG3.out.frozen 37
    go_wp2_with fail
    refine (Make_any n hn ao len cap _ (HNS.out.later (by rw [hL]; exact Hb3.out)) hcap hlen).mono ?_
    rintro _ w5 ⟨v5, rfl, o5, hH, hb5, hM⟩
    obtain ⟨a5, c5, rfl⟩ := hH.form
    have HG5 := hid (HG3.out.later hb5)
    have HW5 := hid (HW3.out.later hb5)
    have HZ5 := hid (HZ3.out.later hb5)
    have Hb5 := hid (show Below L w w5 from Hb3.out.trans (hb5.mono (by omega)))
    clear c36 c37 f37
    obtain ⟨c0, c1, c2, c3, c36, c37, c38, c39⟩ := HG5.out.cells
    have f37 := HG5.out.frozen 37
    clear c0 c1 c2 c3 c36 c38 c39
    have HG6 := hid (HG5.out.set_op (.slice a5 o5.length c5))
    have HZ6 := hid (HZ5.out.beside (b := L + 2) (by omega) 37 (.slice a5 o5.length c5))
    have HH6 := hid ((hH.setApart (L := L + 2) (by omega) 37 (.slice a5 o5.length c5)).mono (B2 := L + 2) (by omega))
    have Hb6 := hid (show Below L w (w5.setCell ⟨L + 2, 37, none⟩ (.slice a5 o5.length c5)) from Hb5.out.setCell (show L ≤ L + 2 by omega) _)
    have HM := hid hM
    clear hH hM hb5 HG5 HW5 HZ5 Hb5 HG3 HW3 HZ3 Hb3
    go_upto_region 5 with fail
    generalize w5.setCell ⟨L + 2, 37, none⟩ (.slice a5 o5.length c5) = w6 at *
    clear c37 f37
    obtain ⟨ds, hds⟩ : ∃ ds, (goodD d).cells (.slice a5 o5.length c5) = ds := ⟨_, rfl⟩
    have hgd : goodD d = ⟨x1, x2, x3, x4, d.h, 1 + 0, 0, 0⟩ := by rw [goodD, HE1.out, HE2.out, HE3.out, HE4.out, HE5.out]; rfl
    have HDS := hid hds
    have HLd := hid (show ds.length = 40 by rw [← hds, Dl.len (by rw [hgd]; exact HD.out)])
    have HOd := hid (show ∀ v ∈ ds, v.oneCell' = true by rw [← hds]; exact Dl.one rfl)
    have hrd := hid (show w6.rangeAt (L + 2) 0 ds by rw [← hds, hgd]; exact HG6.out.whole)
    have HTH := hid (HZ6.out.there (o := 0) (n := ds.length) (by rw [HLd.out, Dl.len Dl.zero_len]; omega))
    have HX := hid (show Blk (w6.setCells (L + 1) 0 ds) 30 (L + 1) ds ∧ Below L w (w6.setCells (L + 1) 0 ds) ∧ HasC (w6.setCells (L + 1) 0 ds) L (.slice a5 o5.length c5) o5 by
      refine ⟨?_, below_setCells (by omega) _ _ Hb6.out, (HH6.out.setCells (L := L + 1) (by omega) 0 ds).mono (by omega)⟩
      have h1 := Blk.setCells ds [] (Dl.zero.cells (.slice none 0 0)) [] (o := 0) (by simpa using HZ6.out) (by rw [HLd.out, Dl.len Dl.zero_len]) rfl
      simpa using h1)
    clear hds hgd HG6 HZ6 HH6 Hb6
    go_wp2_with (first
      | (show wpList _ _ _ (⟨some 47, Op.load _ _, _, _, _, _⟩ :: _) _ _; go_must (refine wpList_load_mid rfl 30 _ rfl (L + 2) 0 rfl ds _ hrd.out Tryd.underlying30 rfl (by rw [HLd.out]; exact HI.out) ?_))
      | (show wpList _ _ _ (⟨none, Op.store _ (Operand.tmp 6) (Operand.tmp 47), _, _, _, _⟩ :: _) _ _; go_must (refine wpList_store_list rfl 30 _ _ rfl (L + 1) 0 ds rfl rfl HTH.out (by rw [HLd.out]; exact HI.out) HOd.out ?_); intro w8 hw8; have HX2 := HX; rw [← hw8] at HX2; clear hw8 HX))
    refine ret_cell 6 30 rfl (L + 1) rfl ds _ (HX2.out.1.range fun j v hv => by rw [Nat.zero_add]; exact hv) Tryd.underlying30 rfl (by rw [HLd.out]; exact HI.out) rfl ⟨.slice a5 o5.length c5, o5, by rw [HDS.out], by rw [hL]; exact HX2.out.2.2, by rw [hL]; exact HX2.out.2.1, fun _ => HM.out, fun h => absurd HE5.out h⟩
  · have hne : (1 + x5 == 1) = false := by simp; omega
    go_upto_region 4 with fail
    obtain ⟨y1, hy1⟩ : ∃ x, d.wD % 3 = x := ⟨_, rfl⟩
    obtain ⟨y2, hy2⟩ : ∃ x, d.wU % 8 = x := ⟨_, rfl⟩
    have HY1 := hid hy1
    have HY2 := hid hy2
    have HS4 := hid (show DW wc.drew 30 L d (.slice av o.length cv) ∧ True from ⟨HW3.out.kept rfl, trivial⟩)
    have HG4 := hid (show DW wc.drew 30 (L + 2) ⟨x1, x2, x3, x4, d.h, 1 + x5, 0, 0⟩ (.slice none 0 0) from HG3.out.kept rfl)
    have HZ4 := hid (show Blk wc.drew 30 (L + 1) (Dl.zero.cells (.slice none 0 0)) from HZ3.out.drewN 1)
    have Hb4 := hid (show Below L w wc.drew from Hb3.out.drew)
    obtain ⟨e0, e1, e2, e3, e36, e37, e38, e39⟩ := HG3.out.cells
    have f38 := HG3.out.frozen 38
    have f39 := HG3.out.frozen 39
    clear hy1 hy2 c36 c37 e0 e1 e2 e3 e36 e37 HG3 HW3 HZ3 Hb3
    refine wp_region_held_drew (S := fun w' => DW w' 30 L d (.slice av o.length cv) ∧ True) (by kernel_rfl) (HS4.out) (fun hHeld => ?_)
    refine wpAnyH_take (i := 0) (v := .pointer (some ⟨L, 38, none⟩)) rfl (by kernel_rfl) (by kernel_rfl) (by kernel_rfl) (fun _ _ _ h => h) (Or.inl ⟨by rfl, by intro w hSw; go_simp⟩) hHeld ?_
    try simp only [Act.put, List.setIfInBounds_toArray, List.set_cons_zero, List.set_cons_succ, List.getElem_toArray, List.getElem_cons_zero, List.getElem_cons_succ]
    refine wpAnyH_take (i := 1) (v := .pointer (some ⟨L, 38, none⟩)) rfl (by kernel_rfl) (by kernel_rfl) (by kernel_rfl) (fun _ _ _ h => h) (Or.inl ⟨by rfl, by intro w hSw; go_simp⟩) hHeld ?_
    try simp only [Act.put, List.setIfInBounds_toArray, List.set_cons_zero, List.set_cons_succ, List.getElem_toArray, List.getElem_cons_zero, List.getElem_cons_succ]
    refine wpAnyH_take (i := 2) (v := .int .i64 d.wD) rfl (by kernel_rfl) (by kernel_rfl) (by kernel_rfl) (fun _ _ _ h => h) (Or.inl ⟨by rfl, by intro w hSw; have q := hSw.1.cells.2.2.2.2.2.2.1; go_simp⟩) hHeld ?_
    try simp only [Act.put, List.setIfInBounds_toArray, List.set_cons_zero, List.set_cons_succ, List.getElem_toArray, List.getElem_cons_zero, List.getElem_cons_succ]
    refine wpAnyH_take (i := 4) (v := .pointer (some ⟨L, 38, none⟩)) rfl (by kernel_rfl) (by kernel_rfl) (by kernel_rfl) (fun _ _ _ h => h) (Or.inl ⟨by rfl, by intro w hSw; go_simp⟩) hHeld ?_
    try simp only [Act.put, List.setIfInBounds_toArray, List.set_cons_zero, List.set_cons_succ, List.getElem_toArray, List.getElem_cons_zero, List.getElem_cons_succ]
    refine wpAnyH_take (i := 5) (v := .pointer (some ⟨L, 39, none⟩)) rfl (by kernel_rfl) (by kernel_rfl) (by kernel_rfl) (fun _ _ _ h => h) (Or.inl ⟨by rfl, by intro w hSw; go_simp⟩) hHeld ?_
    try simp only [Act.put, List.setIfInBounds_toArray, List.set_cons_zero, List.set_cons_succ, List.getElem_toArray, List.getElem_cons_zero, List.getElem_cons_succ]
    refine wpAnyH_take (i := 6) (v := .int .i64 d.wU) rfl (by kernel_rfl) (by kernel_rfl) (by kernel_rfl) (fun _ _ _ h => h) (Or.inl ⟨by rfl, by intro w hSw; have q := hSw.1.cells.2.2.2.2.2.2.2; go_simp⟩) hHeld ?_
    try simp only [Act.put, List.setIfInBounds_toArray, List.set_cons_zero, List.set_cons_succ, List.getElem_toArray, List.getElem_cons_zero, List.getElem_cons_succ]
    refine wpAnyH_ready (rs := [3]) (by kernel_rfl) (by simp) ?_
    refine AllReadyH.cons rfl (fun K hK => ?_) AllReadyH.nil
    go_simp
    refine (within8_any _ 3 (by omega) (by omega) _).mono ?_
    rintro _ wz ⟨rfl, hwz⟩
    rw [HY1.out, hwz]
    clear hwz wz
    refine hK.out _ _ hHeld (fun hHeld => ?_)
    clear hK K
    try simp only [Act.put, List.setIfInBounds_toArray, List.set_cons_zero, List.set_cons_succ, List.getElem_toArray, List.getElem_cons_zero, List.getElem_cons_succ]
    refine wpAnyH_ready (rs := [7]) (by kernel_rfl) (by simp) ?_
    refine AllReadyH.cons rfl (fun K hK => ?_) AllReadyH.nil
    go_simp
    refine (within8_any _ 8 (by omega) (by omega) _).mono ?_
    rintro _ wz ⟨rfl, hwz⟩
    rw [HY2.out, hwz]
    clear hwz wz
    refine hK.out _ _ hHeld (fun hHeld => ?_)
    clear hK K
    try simp only [Act.put, List.setIfInBounds_toArray, List.set_cons_zero, List.set_cons_succ, List.getElem_toArray, List.getElem_cons_zero, List.getElem_cons_succ]
    refine wpAnyH_take (i := 8) (v := .agg #[.int .i64 y1, .int .i64 y2]) rfl (by kernel_rfl) (by kernel_rfl) (by kernel_rfl) (fun _ _ _ h => h) (Or.inl ⟨by rfl, by intro w hSw; go_simp⟩) hHeld ?_
    try simp only [Act.put, List.setIfInBounds_toArray, List.set_cons_zero, List.set_cons_succ, List.getElem_toArray, List.getElem_cons_zero, List.getElem_cons_succ]
    refine wpAnyH_take (i := 9) (v := .pointer (some ⟨L + 2, 38, none⟩)) rfl (by kernel_rfl) (by kernel_rfl) (by kernel_rfl) (fun _ _ _ h => h) (Or.inl ⟨by rfl, by intro w hSw; go_simp⟩) hHeld ?_
    try simp only [Act.put, List.setIfInBounds_toArray, List.set_cons_zero, List.set_cons_succ, List.getElem_toArray, List.getElem_cons_zero, List.getElem_cons_succ]
    refine wpAnyH_ready (rs := [10]) (by kernel_rfl) (by simp) ?_
    refine AllReadyH.cons rfl (fun K hK => ?_) AllReadyH.nil
    go_simp
    have HSX := hid (show DW ((wc.setCell ⟨L + 2, 38, none⟩ (.int .i64 y1)).setCell ⟨L + 2, 39, none⟩ (.int .i64 y2)).drew 30 (L + 2) ⟨x1, x2, x3, x4, d.h, 1 + x5, y1, y2⟩ (.slice none 0 0) ∧ Blk ((wc.setCell ⟨L + 2, 38, none⟩ (.int .i64 y1)).setCell ⟨L + 2, 39, none⟩ (.int .i64 y2)).drew 30 (L + 1) (Dl.zero.cells (.slice none 0 0)) ∧ Below L w ((wc.setCell ⟨L + 2, 38, none⟩ (.int .i64 y1)).setCell ⟨L + 2, 39, none⟩ (.int .i64 y2)).drew from ⟨(HG4.out.set_wD y1).set_wU y2, (HZ4.out.beside (b := L + 2) (by omega) 38 (.int .i64 y1)).beside (b := L + 2) (by omega) 39 (.int .i64 y2), (Hb4.out.setCell (show L ≤ L + 2 by omega) (.int .i64 y1)).setCell (show L ≤ L + 2 by omega) (.int .i64 y2)⟩)
    have hDX : DW ((wc.setCell ⟨L + 2, 38, none⟩ (.int .i64 y1)).setCell ⟨L + 2, 39, none⟩ (.int .i64 y2)).drew 30 L d (.slice av o.length cv) := (hHeld.1.beside (b := L + 2) (by omega) 38 (.int .i64 y1)).beside (b := L + 2) (by omega) 39 (.int .i64 y2)
    refine hK.out _ _ ⟨hDX, trivial⟩ (fun hHeld => ?_)
    clear hK K hDX
    try simp only [Act.put, List.setIfInBounds_toArray, List.set_cons_zero, List.set_cons_succ, List.getElem_toArray, List.getElem_cons_zero, List.getElem_cons_succ]
    refine wpAnyH_done (by kernel_rfl) ?_ _
    clear hHeld e38 e39 f38 f39
    generalize ((wc.setCell ⟨L + 2, 38, none⟩ (.int .i64 y1)).setCell ⟨L + 2, 39, none⟩ (.int .i64 y2)).drew = w6 at *
    have HG5 : Hid (DW w6 30 (L + 2) ⟨x1, x2, x3, x4, d.h, 1 + x5, y1, y2⟩ (.slice none 0 0) ∧ Blk w6 30 (L + 1) (Dl.zero.cells (.slice none 0 0)) ∧ Below L w w6) := HSX
    clear HSX HG4 HZ4 Hb4 HS4
    obtain ⟨ds, hds⟩ : ∃ ds, (goodD d).cells (.slice none 0 0) = ds := ⟨_, rfl⟩
    have hgd : goodD d = ⟨x1, x2, x3, x4, d.h, 1 + x5, y1, y2⟩ := by rw [goodD, HE1.out, HE2.out, HE3.out, HE4.out, HE5.out, if_neg h0, if_neg h0, HY1.out, HY2.out]
    have HDS := hid hds
    have HLd := hid (show ds.length = 40 by rw [← hds, Dl.len (by rw [hgd]; exact HD.out)])
    have HOd := hid (show ∀ v ∈ ds, v.oneCell' = true by rw [← hds]; exact Dl.one rfl)
    have hrd := hid (show w6.rangeAt (L + 2) 0 ds by rw [← hds, hgd]; exact HG5.out.1.whole)
    have HTH := hid (HG5.out.2.1.there (o := 0) (n := ds.length) (by rw [HLd.out, Dl.len Dl.zero_len]; omega))
    have HX := hid (show Blk (w6.setCells (L + 1) 0 ds) 30 (L + 1) ds ∧ Below L w (w6.setCells (L + 1) 0 ds) by
      refine ⟨?_, below_setCells (by omega) _ _ HG5.out.2.2⟩
      have h1 := Blk.setCells ds [] (Dl.zero.cells (.slice none 0 0)) [] (o := 0) (by simpa using HG5.out.2.1) (by rw [HLd.out, Dl.len Dl.zero_len]) rfl
      simpa using h1)
    clear hds hgd HG5
    go_wp2_with (first
      | (show wpList _ _ _ (⟨some 47, Op.load _ _, _, _, _, _⟩ :: _) _ _; go_must (refine wpList_load_mid rfl 30 _ rfl (L + 2) 0 rfl ds _ hrd.out Tryd.underlying30 rfl (by rw [HLd.out]; exact HI.out) ?_))
      | (show wpList _ _ _ (⟨none, Op.store _ (Operand.tmp 6) (Operand.tmp 47), _, _, _, _⟩ :: _) _ _; go_must (refine wpList_store_list rfl 30 _ _ rfl (L + 1) 0 ds rfl rfl HTH.out (by rw [HLd.out]; exact HI.out) HOd.out ?_); intro w8 hw8; have HX2 := HX; rw [← hw8] at HX2; clear hw8 HX))
    refine ret_cell 6 30 rfl (L + 1) rfl ds _ (HX2.out.1.range fun j v hv => by rw [Nat.zero_add]; exact hv) Tryd.underlying30 rfl (by rw [HLd.out]; exact HI.out) rfl ⟨.slice none 0 0, [], by rw [HDS.out], HasC.nil _ _, by rw [hL]; exact HX2.out.2, fun h => absurd (by rw [← HE5.out]; exact h) h0, fun _ => rfl⟩
end Go.Proofs.YtinifnpajkldbaaDoor
