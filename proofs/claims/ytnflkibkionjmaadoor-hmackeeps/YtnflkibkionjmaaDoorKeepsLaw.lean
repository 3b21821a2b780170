/- The law HmacKeeps: key and parts stay as they were. -/
import Derived.Test.YtnflkibkionjmaaDoorLawBits
namespace Go.Proofs.YtnflkibkionjmaaDoor
open Go.RowKit
set_option linter.unusedSimpArgs false
set_option linter.unusedVariables false

section
variable {P : Program} {w : World}
theorem wp_make_room {o : Oper} {a : Act} {K : Act → World → Prop} {Q : Exit → Act → World → Prop} (l c : Operand) (t : TypeId) (hop : o.op = Op.makeSlice t l c)
    (e : TypeId) (i : TypeInfo) (ht : P.underlying t = some (.slice e)) (hi : P.info? e = some i) (hz : i.zero = some (.int .u8 0)) (hsize : i.size = 1) (hby : i.bytes = 1)
    (kl kc : IntKind) (n : Nat) (hl : a.eval l = .int kl 0) (hc : a.eval c = .int kc (n : Int)) (hb : n ≤ 140737488355328) (N : Nat) (hN : w.heap.size = N)
    (h : ∀ w', Blk w' e N (B (List.replicate n 0)) → Below N w w' → w'.heap.size = N + 1 → K (a.put o.dst (.slice (some ⟨N, 0, none⟩) 0 n)) w') : o.wp P a w K Q := by
  subst hN
  have hr := run_make (P := P) w t e i _ ht hi hz kl kc 0 (n : Int) (by omega) (by omega) (by rw [hby]; omega) (by omega)
  simp only [Int.toNat_natCast, Int.toNat_zero] at hr
  have hcells : (madeCells (Value.int .u8 0).cells (n * i.size)) = (B (List.replicate n 0)).toArray := by
    apply Array.ext'
    have h1 := made_bytes (n * i.size) n (by rw [hsize, Nat.mul_one]; exact Nat.le_refl _)
    rw [List.take_of_length_le (by rw [Array.length_toList, size_madeCells, hsize, Nat.mul_one]; exact Nat.le_refl _)] at h1
    rw [h1]
  rw [hcells] at hr
  unfold Oper.wp
  simp [execOp, hop, hl, hc, hr, Result.andThen]
  exact h _ (Blk.new w e _) ((Below.refl _ _).alloc (Nat.le_refl _) _) (by simp)

/-- append to an empty slice that has room. -/
theorem wp_append_room {o : Oper} {a : Act} {K : Act → World → Prop} {Q : Exit → Act → World → Prop} (s x : Operand) (t tx : TypeId)
    (ho : o.op = .call { callee := .builtin .append, args := #[s, x], argTypes := #[t, tx] })
    (e : TypeId) (i : TypeInfo) (ht : P.underlying t = some (.slice e)) (hi : P.info? e = some i) (hsize : i.size = 1)
    (g c : Nat) (cs : List Value) (hcs : cs.length = c) (hs : a.eval s = .slice (some ⟨g, 0, none⟩) 0 c) (hB : Blk w e g cs)
    (y : Value) (m : Nat) (news : List Value) (hx : a.eval x = y) (hsrc : Src P 1 tx y m news w) (hroom : m ≤ c)
    (h : ∀ w', Blk w' e g (news ++ cs.drop m) → w.grownBy w' (some g) → w'.heap.size = w.heap.size → K (a.put o.dst (.slice (some ⟨g, 0, none⟩) m c)) w') : o.wp P a w K Q := by
  have hl : news.length = m := by simpa using hsrc.newsLen
  have hst := run_storeCells_at P g 0 e news 0 cs.toArray w hB (by rw [hl]; simp; omega) hsrc.one
  simp only [Nat.add_zero, List.take_zero, List.nil_append, Nat.zero_add] at hst
  have hroom' : 0 + m ≤ c := by omega
  have hr : (Builtin.append_ #[t, tx] o.type #[.slice (some ⟨g, 0, none⟩) 0 c, y]).run P w = .ok (.slice (some ⟨g, 0, none⟩) m c) (w.setRow g (news ++ cs.drop news.length).toArray) := by
    rcases hsrc.kind with ⟨e', hk⟩ | hk <;> simp [Builtin.append_, run_underlying ht, run_underlying hk, sizeOf, typeInfo, hi, hsize, hsrc.len, hroom, hsrc.cells, Addr.add_lit, hst]
  unfold Oper.wp execOp
  simp only [ho, resolve, invoke, builtin, Sem.run_bind, Sem.run_pure, Result.andThen_ok, List.map_toArray, List.map_cons, List.map_nil, hs, hx, hr]
  refine h _ ?_ ⟨rfl, rfl, rfl, by simp, fun k _ hk => setRow_other w g k _ (fun e => hk (by simp [e]))⟩ (by simp)
  rw [hl]
  exact setRow_heap w g _ _ e _ hB
end
theorem B_rep (k : Nat) : B (List.replicate k 0) = List.replicate k (.int .u8 0) := by simp [B]
theorem B_rep_drop (k c : Nat) : (B (List.replicate c 0)).drop k = List.replicate (c - k) (Value.int .u8 0) := by rw [B_rep, List.drop_replicate]

set_option maxRecDepth 100000 in
set_option maxHeartbeats 8000000 in
theorem keeps_any (key : List UInt8) (ao : Option Addr) (n cap : Nat) (hn : key.length = n) (text : List UInt8) (bo : Option Addr) (m bc : Nat) (hm : text.length = m) (w : World) (ht : Tabs w)
    (hr : Reads w (.slice ao n cap) (B key)) (hcap : cap ≤ maxLen) (htx : Reads w (.slice bo m bc) (B text)) (hbc : bc ≤ maxLen) :
    Calls Tryd.prog 7 #[.slice ao n cap, .slice bo m bc] w fun e w' => e = .returned (.bool true) ∧ Below w.heap.size w w' := by
  obtain ⟨i0, hi, hz0, hz1, hz2⟩ := info_parts Tryd.infoByte
  have HR := hid hr
  have HX := hid htx
  have HT := hid ht
  have HN := hid hn
  have HM := hid hm
  have HC := hid hcap
  have HBc := hid hbc
  have h2 := ht.two
  clear hr htx ht hn hm hcap hbc
  go_enter Tryd.func7, Tryd.ntmps7
  go_wp2_with fail
  refine (known3_any _ HT.out).mono ?_
  rintro _ w1 ⟨rfl, hb1'⟩
  have Hb1 := hid hb1'
  clear hb1'
  by_cases h1 : (100 : Int) < (n : Int)
  · go_wp2_with fail
    go_ret
    exact ⟨rfl, Hb1.out⟩
  by_cases h3 : (100 : Int) < (m : Int)
  · go_wp2_with fail
    go_ret
    exact ⟨rfl, Hb1.out⟩
  have hn1 : n ≤ 100 := by omega
  have hm1 : m ≤ 100 := by omega
  go_upto_region 5 with fail
  go_cut [5, 6] (fun s5 s6 w' => ∃ gx gy, s5 = .slice (some ⟨gx, 0, none⟩) n 200 ∧ s6 = .slice (some ⟨gy, 0, none⟩) m 200 ∧ w.heap.size ≤ gx ∧ w.heap.size ≤ gy ∧ Blk w' 5 gx (B (key ++ List.replicate (200 - n) 0)) ∧ Blk w' 5 gy (B (text ++ List.replicate (200 - m) 0)) ∧ Below w.heap.size w w')
  case first =>
    have Hb := hid (show Below w.heap.size w w1.drew from Hb1.out.drew)
    clear Hb1
    refine wp_region_held_drew (S := fun w' => True) (by kernel_rfl) (trivial) (fun hHeld => ?_)
    refine wpAnyH_take (i := 1) (v := .slice ao n cap) rfl (by kernel_rfl) (by kernel_rfl) (by kernel_rfl) (fun _ _ _ h => h) (Or.inl ⟨by rfl, by intro w hSw; go_simp⟩) hHeld ?_
    try simp only [Act.put, List.setIfInBounds_toArray, List.set_cons_zero, List.set_cons_succ, List.getElem_toArray, List.getElem_cons_zero, List.getElem_cons_succ]
    refine wpAnyH_take (i := 4) (v := .slice bo m bc) rfl (by kernel_rfl) (by kernel_rfl) (by kernel_rfl) (fun _ _ _ h => h) (Or.inl ⟨by rfl, by intro w hSw; go_simp⟩) hHeld ?_
    try simp only [Act.put, List.setIfInBounds_toArray, List.set_cons_zero, List.set_cons_succ, List.getElem_toArray, List.getElem_cons_zero, List.getElem_cons_succ]
    refine wpAnyH_ready (rs := [0, 3]) (by kernel_rfl) (by simp) ?_
    refine AllReadyH.cons rfl (fun K hK => ?_) (AllReadyH.cons rfl (fun K hK => ?_) AllReadyH.nil)
    · obtain ⟨gx, hgx⟩ : ∃ N, w1.drew.heap.size = N := ⟨_, rfl⟩
      refine Eq.mpr (if_pos (by rfl)) ?_
      refine wp_make_room _ _ 22 rfl 5 i0 Tryd.underlying22 hi hz0 hz1 hz2 .i64 .i64 200 rfl rfl (by omega) gx hgx ?_
      intro v1 hB hb0 hz
      have hb' : Below w1.drew.heap.size w1.drew v1 := by rw [hgx]; exact hb0
      have hlx : w.heap.size ≤ gx := by have := Hb.out.size; omega
      have Hb' := hid (below_seq Hb.out hb')
      have hX' := hid hB
      clear hB hb0 hb' Hb
      have Hb := Hb'
      clear Hb'
      have hX := hX'
      clear hX'
      refine hK.out _ _ trivial (fun hHeld => ?_)
      clear hK K
      try simp only [Act.put, List.setIfInBounds_toArray, List.set_cons_zero, List.set_cons_succ, List.getElem_toArray, List.getElem_cons_zero, List.getElem_cons_succ]
      refine wpAnyH_ready (rs := [2, 3]) (by kernel_rfl) (by simp) ?_
      refine AllReadyH.cons rfl (fun K hK => ?_) (AllReadyH.cons rfl (fun K hK => ?_) AllReadyH.nil)
      · refine Eq.mpr (if_pos (by rfl)) ?_
        refine wp_append_room _ _ 22 22 rfl 5 i0 Tryd.underlying22 hi hz1 gx 200 (B (List.replicate 200 0)) (by rw [B_length, List.length_replicate]) rfl hX.out _ n (B key) rfl (Src.ofBytes _ Tryd.underlying22 HN.out (HR.out.later Hb.out)) (by omega) ?_
        intro v2 hB hg hz
        have Hb' := hid (Hb.out.trans (grown_below hg _ (by intro k hk; cases hk; exact hlx) Hb.out.size))
        have hX' := hid (show Blk v2 5 gx (B (key ++ List.replicate (200 - n) 0)) by rw [B_append, B_rep, ← B_rep_drop]; exact hB)
        clear hB hg Hb hX
        have Hb := Hb'
        clear Hb'
        have hX := hX'
        clear hX'
        refine hK.out _ _ trivial (fun hHeld => ?_)
        clear hK K
        try simp only [Act.put, List.setIfInBounds_toArray, List.set_cons_zero, List.set_cons_succ, List.getElem_toArray, List.getElem_cons_zero, List.getElem_cons_succ]
        refine wpAnyH_ready (rs := [3]) (by kernel_rfl) (by simp) ?_
        refine AllReadyH.cons rfl (fun K hK => ?_) AllReadyH.nil
        obtain ⟨gy, hgy⟩ : ∃ N, v2.heap.size = N := ⟨_, rfl⟩
        refine Eq.mpr (if_pos (by rfl)) ?_
        refine wp_make_room _ _ 22 rfl 5 i0 Tryd.underlying22 hi hz0 hz1 hz2 .i64 .i64 200 rfl rfl (by omega) gy hgy ?_
        intro v3 hB hb0 hz
        have hb' : Below v2.heap.size v2 v3 := by rw [hgy]; exact hb0
        have hly : w.heap.size ≤ gy := by have := Hb.out.size; omega
        have Hb' := hid (below_seq Hb.out hb')
        have hX' := hid (hX.out.later hb')
        have hne : gx ≠ gy := by have := hX.out.lt; omega
        have hY' := hid hB
        clear hB hb0 hb' Hb hX
        have Hb := Hb'
        clear Hb'
        have hX := hX'
        clear hX'
        have hY := hY'
        clear hY'
        refine hK.out _ _ trivial (fun hHeld => ?_)
        clear hK K
        try simp only [Act.put, List.setIfInBounds_toArray, List.set_cons_zero, List.set_cons_succ, List.getElem_toArray, List.getElem_cons_zero, List.getElem_cons_succ]
        refine wpAnyH_ready (rs := [5]) (by kernel_rfl) (by simp) ?_
        refine AllReadyH.cons rfl (fun K hK => ?_) AllReadyH.nil
        refine Eq.mpr (if_pos (by rfl)) ?_
        refine wp_append_room _ _ 22 22 rfl 5 i0 Tryd.underlying22 hi hz1 gy 200 (B (List.replicate 200 0)) (by rw [B_length, List.length_replicate]) rfl hY.out _ m (B text) rfl (Src.ofBytes _ Tryd.underlying22 HM.out (HX.out.later Hb.out)) (by omega) ?_
        intro v4 hB hg hz
        have Hb' := hid (Hb.out.trans (grown_below hg _ (by intro k hk; cases hk; exact hly) Hb.out.size))
        have hX' := hid (hX.out.kept (hg.block gx hX.out.lt (by intro e; injection e; omega)))
        have hY' := hid (show Blk v4 5 gy (B (text ++ List.replicate (200 - m) 0)) by rw [B_append, B_rep, ← B_rep_drop]; exact hB)
        clear hB hg Hb hX hY
        have Hb := Hb'
        clear Hb'
        have hX := hX'
        clear hX'
        have hY := hY'
        clear hY'
        refine hK.out _ _ trivial (fun hHeld => ?_)
        clear hK K
        try simp only [Act.put, List.setIfInBounds_toArray, List.set_cons_zero, List.set_cons_succ, List.getElem_toArray, List.getElem_cons_zero, List.getElem_cons_succ]
        refine wpAnyH_take (i := 6) (v := .slice (some ⟨gx, 0, none⟩) n 200) rfl (by kernel_rfl) (by kernel_rfl) (by kernel_rfl) (fun _ _ _ h => h) (Or.inl ⟨by rfl, by intro w hSw; go_simp⟩) hHeld ?_
        try simp only [Act.put, List.setIfInBounds_toArray, List.set_cons_zero, List.set_cons_succ, List.getElem_toArray, List.getElem_cons_zero, List.getElem_cons_succ]
        refine wpAnyH_take (i := 7) (v := .slice (some ⟨gy, 0, none⟩) m 200) rfl (by kernel_rfl) (by kernel_rfl) (by kernel_rfl) (fun _ _ _ h => h) (Or.inl ⟨by rfl, by intro w hSw; go_simp⟩) hHeld ?_
        try simp only [Act.put, List.setIfInBounds_toArray, List.set_cons_zero, List.set_cons_succ, List.getElem_toArray, List.getElem_cons_zero, List.getElem_cons_succ]
        refine wpAnyH_done (by kernel_rfl) ?_ _
        go_wp2_with fail
        go_meet
        case rel => exact ⟨gx, gy, rfl, rfl, hlx, hly, hX.out, hY.out, Hb.out⟩
      · obtain ⟨gy, hgy⟩ : ∃ N, v1.heap.size = N := ⟨_, rfl⟩
        refine Eq.mpr (if_pos (by rfl)) ?_
        refine wp_make_room _ _ 22 rfl 5 i0 Tryd.underlying22 hi hz0 hz1 hz2 .i64 .i64 200 rfl rfl (by omega) gy hgy ?_
        intro v2 hB hb0 hz
        have hb' : Below v1.heap.size v1 v2 := by rw [hgy]; exact hb0
        have hly : w.heap.size ≤ gy := by have := Hb.out.size; omega
        have Hb' := hid (below_seq Hb.out hb')
        have hX' := hid (hX.out.later hb')
        have hne : gx ≠ gy := by have := hX.out.lt; omega
        have hY' := hid hB
        clear hB hb0 hb' Hb hX
        have Hb := Hb'
        clear Hb'
        have hX := hX'
        clear hX'
        have hY := hY'
        clear hY'
        refine hK.out _ _ trivial (fun hHeld => ?_)
        clear hK K
        try simp only [Act.put, List.setIfInBounds_toArray, List.set_cons_zero, List.set_cons_succ, List.getElem_toArray, List.getElem_cons_zero, List.getElem_cons_succ]
        refine wpAnyH_ready (rs := [2]) (by kernel_rfl) (by simp) ?_
        refine AllReadyH.cons rfl (fun K hK => ?_) AllReadyH.nil
        refine Eq.mpr (if_pos (by rfl)) ?_
        refine wp_append_room _ _ 22 22 rfl 5 i0 Tryd.underlying22 hi hz1 gx 200 (B (List.replicate 200 0)) (by rw [B_length, List.length_replicate]) rfl hX.out _ n (B key) rfl (Src.ofBytes _ Tryd.underlying22 HN.out (HR.out.later Hb.out)) (by omega) ?_
        intro v3 hB hg hz
        have Hb' := hid (Hb.out.trans (grown_below hg _ (by intro k hk; cases hk; exact hlx) Hb.out.size))
        have hY' := hid (hY.out.kept (hg.block gy hY.out.lt (by intro e; injection e; omega)))
        have hX' := hid (show Blk v3 5 gx (B (key ++ List.replicate (200 - n) 0)) by rw [B_append, B_rep, ← B_rep_drop]; exact hB)
        clear hB hg Hb hX hY
        have Hb := Hb'
        clear Hb'
        have hX := hX'
        clear hX'
        have hY := hY'
        clear hY'
        refine hK.out _ _ trivial (fun hHeld => ?_)
        clear hK K
        try simp only [Act.put, List.setIfInBounds_toArray, List.set_cons_zero, List.set_cons_succ, List.getElem_toArray, List.getElem_cons_zero, List.getElem_cons_succ]
        refine wpAnyH_ready (rs := [5]) (by kernel_rfl) (by simp) ?_
        refine AllReadyH.cons rfl (fun K hK => ?_) AllReadyH.nil
        refine Eq.mpr (if_pos (by rfl)) ?_
        refine wp_append_room _ _ 22 22 rfl 5 i0 Tryd.underlying22 hi hz1 gy 200 (B (List.replicate 200 0)) (by rw [B_length, List.length_replicate]) rfl hY.out _ m (B text) rfl (Src.ofBytes _ Tryd.underlying22 HM.out (HX.out.later Hb.out)) (by omega) ?_
        intro v4 hB hg hz
        have Hb' := hid (Hb.out.trans (grown_below hg _ (by intro k hk; cases hk; exact hly) Hb.out.size))
        have hX' := hid (hX.out.kept (hg.block gx hX.out.lt (by intro e; injection e; omega)))
        have hY' := hid (show Blk v4 5 gy (B (text ++ List.replicate (200 - m) 0)) by rw [B_append, B_rep, ← B_rep_drop]; exact hB)
        clear hB hg Hb hX hY
        have Hb := Hb'
        clear Hb'
        have hX := hX'
        clear hX'
        have hY := hY'
        clear hY'
        refine hK.out _ _ trivial (fun hHeld => ?_)
        clear hK K
        try simp only [Act.put, List.setIfInBounds_toArray, List.set_cons_zero, List.set_cons_succ, List.getElem_toArray, List.getElem_cons_zero, List.getElem_cons_succ]
        refine wpAnyH_take (i := 6) (v := .slice (some ⟨gx, 0, none⟩) n 200) rfl (by kernel_rfl) (by kernel_rfl) (by kernel_rfl) (fun _ _ _ h => h) (Or.inl ⟨by rfl, by intro w hSw; go_simp⟩) hHeld ?_
        try simp only [Act.put, List.setIfInBounds_toArray, List.set_cons_zero, List.set_cons_succ, List.getElem_toArray, List.getElem_cons_zero, List.getElem_cons_succ]
        refine wpAnyH_take (i := 7) (v := .slice (some ⟨gy, 0, none⟩) m 200) rfl (by kernel_rfl) (by kernel_rfl) (by kernel_rfl) (fun _ _ _ h => h) (Or.inl ⟨by rfl, by intro w hSw; go_simp⟩) hHeld ?_
        try simp only [Act.put, List.setIfInBounds_toArray, List.set_cons_zero, List.set_cons_succ, List.getElem_toArray, List.getElem_cons_zero, List.getElem_cons_succ]
        refine wpAnyH_done (by kernel_rfl) ?_ _
        go_wp2_with fail
        go_meet
        case rel => exact ⟨gx, gy, rfl, rfl, hlx, hly, hX.out, hY.out, Hb.out⟩
    · obtain ⟨gy, hgy⟩ : ∃ N, w1.drew.heap.size = N := ⟨_, rfl⟩
      refine Eq.mpr (if_pos (by rfl)) ?_
      refine wp_make_room _ _ 22 rfl 5 i0 Tryd.underlying22 hi hz0 hz1 hz2 .i64 .i64 200 rfl rfl (by omega) gy hgy ?_
      intro v1 hB hb0 hz
      have hb' : Below w1.drew.heap.size w1.drew v1 := by rw [hgy]; exact hb0
      have hly : w.heap.size ≤ gy := by have := Hb.out.size; omega
      have Hb' := hid (below_seq Hb.out hb')
      have hY' := hid hB
      clear hB hb0 hb' Hb
      have Hb := Hb'
      clear Hb'
      have hY := hY'
      clear hY'
      refine hK.out _ _ trivial (fun hHeld => ?_)
      clear hK K
      try simp only [Act.put, List.setIfInBounds_toArray, List.set_cons_zero, List.set_cons_succ, List.getElem_toArray, List.getElem_cons_zero, List.getElem_cons_succ]
      refine wpAnyH_ready (rs := [0]) (by kernel_rfl) (by simp) ?_
      refine AllReadyH.cons rfl (fun K hK => ?_) AllReadyH.nil
      obtain ⟨gx, hgx⟩ : ∃ N, v1.heap.size = N := ⟨_, rfl⟩
      refine Eq.mpr (if_pos (by rfl)) ?_
      refine wp_make_room _ _ 22 rfl 5 i0 Tryd.underlying22 hi hz0 hz1 hz2 .i64 .i64 200 rfl rfl (by omega) gx hgx ?_
      intro v2 hB hb0 hz
      have hb' : Below v1.heap.size v1 v2 := by rw [hgx]; exact hb0
      have hlx : w.heap.size ≤ gx := by have := Hb.out.size; omega
      have Hb' := hid (below_seq Hb.out hb')
      have hY' := hid (hY.out.later hb')
      have hne : gx ≠ gy := by have := hY.out.lt; omega
      have hX' := hid hB
      clear hB hb0 hb' Hb hY
      have Hb := Hb'
      clear Hb'
      have hX := hX'
      clear hX'
      have hY := hY'
      clear hY'
      refine hK.out _ _ trivial (fun hHeld => ?_)
      clear hK K
      try simp only [Act.put, List.setIfInBounds_toArray, List.set_cons_zero, List.set_cons_succ, List.getElem_toArray, List.getElem_cons_zero, List.getElem_cons_succ]
      refine wpAnyH_ready (rs := [2]) (by kernel_rfl) (by simp) ?_
      refine AllReadyH.cons rfl (fun K hK => ?_) AllReadyH.nil
      refine Eq.mpr (if_pos (by rfl)) ?_
      refine wp_append_room _ _ 22 22 rfl 5 i0 Tryd.underlying22 hi hz1 gx 200 (B (List.replicate 200 0)) (by rw [B_length, List.length_replicate]) rfl hX.out _ n (B key) rfl (Src.ofBytes _ Tryd.underlying22 HN.out (HR.out.later Hb.out)) (by omega) ?_
      intro v3 hB hg hz
      have Hb' := hid (Hb.out.trans (grown_below hg _ (by intro k hk; cases hk; exact hlx) Hb.out.size))
      have hY' := hid (hY.out.kept (hg.block gy hY.out.lt (by intro e; injection e; omega)))
      have hX' := hid (show Blk v3 5 gx (B (key ++ List.replicate (200 - n) 0)) by rw [B_append, B_rep, ← B_rep_drop]; exact hB)
      clear hB hg Hb hX hY
      have Hb := Hb'
      clear Hb'
      have hX := hX'
      clear hX'
      have hY := hY'
      clear hY'
      refine hK.out _ _ trivial (fun hHeld => ?_)
      clear hK K
      try simp only [Act.put, List.setIfInBounds_toArray, List.set_cons_zero, List.set_cons_succ, List.getElem_toArray, List.getElem_cons_zero, List.getElem_cons_succ]
      refine wpAnyH_ready (rs := [5]) (by kernel_rfl) (by simp) ?_
      refine AllReadyH.cons rfl (fun K hK => ?_) AllReadyH.nil
      refine Eq.mpr (if_pos (by rfl)) ?_
      refine wp_append_room _ _ 22 22 rfl 5 i0 Tryd.underlying22 hi hz1 gy 200 (B (List.replicate 200 0)) (by rw [B_length, List.length_replicate]) rfl hY.out _ m (B text) rfl (Src.ofBytes _ Tryd.underlying22 HM.out (HX.out.later Hb.out)) (by omega) ?_
      intro v4 hB hg hz
      have Hb' := hid (Hb.out.trans (grown_below hg _ (by intro k hk; cases hk; exact hly) Hb.out.size))
      have hX' := hid (hX.out.kept (hg.block gx hX.out.lt (by intro e; injection e; omega)))
      have hY' := hid (show Blk v4 5 gy (B (text ++ List.replicate (200 - m) 0)) by rw [B_append, B_rep, ← B_rep_drop]; exact hB)
      clear hB hg Hb hX hY
      have Hb := Hb'
      clear Hb'
      have hX := hX'
      clear hX'
      have hY := hY'
      clear hY'
      refine hK.out _ _ trivial (fun hHeld => ?_)
      clear hK K
      try simp only [Act.put, List.setIfInBounds_toArray, List.set_cons_zero, List.set_cons_succ, List.getElem_toArray, List.getElem_cons_zero, List.getElem_cons_succ]
      refine wpAnyH_take (i := 6) (v := .slice (some ⟨gx, 0, none⟩) n 200) rfl (by kernel_rfl) (by kernel_rfl) (by kernel_rfl) (fun _ _ _ h => h) (Or.inl ⟨by rfl, by intro w hSw; go_simp⟩) hHeld ?_
      try simp only [Act.put, List.setIfInBounds_toArray, List.set_cons_zero, List.set_cons_succ, List.getElem_toArray, List.getElem_cons_zero, List.getElem_cons_succ]
      refine wpAnyH_take (i := 7) (v := .slice (some ⟨gy, 0, none⟩) m 200) rfl (by kernel_rfl) (by kernel_rfl) (by kernel_rfl) (fun _ _ _ h => h) (Or.inl ⟨by rfl, by intro w hSw; go_simp⟩) hHeld ?_
      try simp only [Act.put, List.setIfInBounds_toArray, List.set_cons_zero, List.set_cons_succ, List.getElem_toArray, List.getElem_cons_zero, List.getElem_cons_succ]
      refine wpAnyH_done (by kernel_rfl) ?_ _
      go_wp2_with fail
      go_meet
      case rel => exact ⟨gx, gy, rfl, rfl, hlx, hly, hX.out, hY.out, Hb.out⟩
  case rest =>
  obtain ⟨gx, gy, rfl, rfl, hlx, hly, hX, hY, hb2⟩ := hcut
  have HXb := hid hX
  have HYb := hid hY
  have Hb2 := hid hb2
  clear hX hY hb2 Hb1
  have HLk := hid (show (key ++ List.replicate (200 - n) 0).length = 200 by rw [List.length_append, HN.out, List.length_replicate]; omega)
  have HLt := hid (show (text ++ List.replicate (200 - m) 0).length = 200 by rw [List.length_append, HM.out, List.length_replicate]; omega)
  have HRk := hid (show ∀ w' : World, Blk w' 5 gx (B (key ++ List.replicate (200 - n) 0)) → Reads w' (.slice (some ⟨gx, 0, none⟩) n 200) (B key) by
    intro w' h
    have h := Blk.reads h n 200 (by rw [HLk.out]; omega) (by omega)
    rw [List.take_left' HN.out] at h
    exact h)
  have HRt := hid (show ∀ w' : World, Blk w' 5 gy (B (text ++ List.replicate (200 - m) 0)) → Reads w' (.slice (some ⟨gy, 0, none⟩) m 200) (B text) by
    intro w' h
    have h := Blk.reads h m 200 (by rw [HLt.out]; omega) (by omega)
    rw [List.take_left' HM.out] at h
    exact h)
  go_wp2_with fail
  have HbA := hid (show Below w.heap.size w (wc.alloc (.cells #[.slice (some ⟨gy, 0, none⟩) m 200] 22)) from below_seq Hb2.out (below_new _ _))
  refine (Mac_any key _ n 200 HN.out _ 1 1 [text] rfl _ (HT.out.below HbA.out h2) (HRk.out _ (HXb.out.alloc _)) (by unfold maxLen; omega) (by omega) (parts_new (HRt.out _ HYb.out) HM.out (by unfold maxLen; omega)) (by omega) (by rw [show [text].flatten = text by simp, HM.out]; omega)).mono ?_
  rintro _ w3 ⟨rfl, hb3⟩
  have Hb3 := hid (below_seq HbA.out hb3)
  have HX3 := hid ((HXb.out.alloc (.cells #[.slice (some ⟨gy, 0, none⟩) m 200] 22)).later hb3)
  have HY3 := hid ((HYb.out.alloc (.cells #[.slice (some ⟨gy, 0, none⟩) m 200] 22)).later hb3)
  generalize (B (macS key [text].flatten)).toArray = q1 at *
  clear hb3 HbA Hb2 HXb HYb
  have HC0 := hid (show ∀ j, n ≤ j → j < 200 → w3.cell? ⟨gx, j, none⟩ = some (.int .u8 0) by
    intro j hj hj2
    refine HX3.out.cell ?_
    rw [B_append, List.getElem?_append_right (by rw [B_length, HN.out]; exact hj), B_length, HN.out, B_rep, List.getElem?_replicate, if_pos (by omega)])
  go_wp2_with fail
  go_loopw [8] (fun i wr => ∃ j : Nat, n ≤ j ∧ j ≤ 150 ∧ i = .int .i64 j ∧ wr = w3) (fun i _ => 150 - (intOf i).toNat)
  case atStart => exact ⟨n, Nat.le_refl _, by omega, rfl, rfl⟩
  case round =>
    obtain ⟨j, hnj, hj, rfl, rfl⟩ := hrel
    by_cases hlt : j < 150
    · have hlt' : (j : Int) < 150 := by omega
      have c0 := HC0.out j hnj (by omega)
      go_wp2_with fail
      go_roundw
      case rel => exact ⟨j + 1, by omega, by omega, by go_num, by first | exact trivial | rfl⟩
      case measure => simp [intOf]; omega
    · have hj150 : j = 150 := by omega
      subst hj150
      have s1 := run_string wr 22 9 5 Tryd.underlying22 Tryd.underlying5 Tryd.underlying9 (HRk.out _ HX3.out)
      have s2 := run_string wr 22 9 5 Tryd.underlying22 Tryd.underlying5 Tryd.underlying9 (HR.out.later Hb3.out)
      have s3 := run_string wr 22 9 5 Tryd.underlying22 Tryd.underlying5 Tryd.underlying9 (HRt.out _ HY3.out)
      have s4 := run_string wr 22 9 5 Tryd.underlying22 Tryd.underlying5 Tryd.underlying9 (HX.out.later Hb3.out)
      generalize (⟨key.toArray⟩ : ByteArray) = sk at *
      generalize (⟨text.toArray⟩ : ByteArray) = st at *
      go_wp2_with fail
      go_ret
      exact ⟨rfl, Hb3.out⟩

theorem keeps_row (a0 : Option Addr) (len0 cap0 : Nat) (z0 : List Int) (w0 : World) (h0 : IsRow .u8 w0 a0 len0 cap0 z0) (a1 : Option Addr) (len1 cap1 : Nat) (z1 : List Int) (h1 : IsRow .u8 w0 a1 len1 cap1 z1) (ht : Tabs w0) :
    Calls Tryd.prog 7 #[.slice a0 len0 cap0, .slice a1 len1 cap1] w0 fun e w' => e = .returned (.bool true) ∧ Below w0.heap.size w0 w' := by
  obtain ⟨l, hl, _, hr⟩ := bytes_of_row h0
  rw [hl] at hr
  obtain ⟨l1, hl1, _, hr1⟩ := bytes_of_row h1
  rw [hl1] at hr1
  exact keeps_any l a0 len0 cap0 hl l1 a1 len1 cap1 hl1 w0 ht hr h0.cap hr1 h1.cap
end Go.Proofs.YtnflkibkionjmaaDoor
