/- The contract of stir: the block goes into the state. -/
import Derived.Test.YtinifnpajkldbaaDoorSpread
import Derived.Stop.BytesEq
namespace Go.Proofs.YtinifnpajkldbaaDoor
open Go.RowKit
set_option linter.unusedSimpArgs false
set_option linter.unusedVariables false
attribute [local go_sem] wadd wadd' wxor wand wnot

/-- The cells of a sum on its way. -/
def wk (st : List UInt32) (size held : Int) (blk last : List UInt8) (ws : List UInt32) : List Value :=
  U st ++ ([.int .u64 size, .int .i64 held] ++ (B blk ++ (B last ++ U ws)))

/-- The two tables of the package, in their blocks. -/
structure Tabs (w : World) : Prop where
  begin : w.rangeAt 0 0 (U H0.l)
  keys : w.rangeAt 1 0 (U K)

theorem range_kept {w w' : World} {b o : Nat} {cs : List Value} (h : w.rangeAt b o cs) (hb : w'.heap[b]? = w.heap[b]?) : w'.rangeAt b o cs := fun j v hv => by
  rw [World.cell?_of_block (a := ⟨b, o + j, none⟩) hb]; exact h j v hv
theorem range_lt {w : World} {b o : Nat} {cs : List Value} (h : w.rangeAt b o cs) (h0 : 0 < cs.length) : b < w.heap.size :=
  World.block_lt_of_cell? w _ (h 0 _ (List.getElem?_eq_getElem h0))
theorem Tabs.two {w : World} (h : Tabs w) : 2 ≤ w.heap.size := range_lt h.keys (by decide)
theorem Tabs.grown {w w' : World} {g : Nat} (h : Tabs w) (hg : w.grownBy w' (some g)) (h2 : 2 ≤ g) : Tabs w' :=
  ⟨range_kept h.begin (hg.block 0 (by have := h.two; omega) (by intro e; cases e; omega)), range_kept h.keys (hg.block 1 (by have := h.two; omega) (by intro e; cases e; omega))⟩
theorem Tabs.below {w w' : World} {Bd : Nat} (h : Tabs w) (hb : Below Bd w w') (h2 : 2 ≤ Bd) : Tabs w' :=
  ⟨range_kept h.begin (hb.block 0 (by omega)), range_kept h.keys (hb.block 1 (by omega))⟩

section
variable {w : World} {t : TypeId} {g : Nat} {st : List UInt32} {size held : Int} {blk last : List UInt8} {ws : List UInt32}

theorem wk_state (h : Blk w t g (wk st size held blk last ws)) (j : Nat) (hj : j < st.length) : w.cell? ⟨g, j, none⟩ = some (.int .u32 (nt (st.getD j 0))) := by
  refine h.cell ?_
  unfold wk
  rw [List.getElem?_append_left (by rw [U_length]; exact hj), U_getD _ _ hj]
theorem wk_size (h : Blk w t g (wk st size held blk last ws)) (hs : st.length = 8) : w.cell? ⟨g, 8, none⟩ = some (.int .u64 size) := by
  refine h.cell ?_
  unfold wk
  rw [List.getElem?_append_right (by rw [U_length]; omega), U_length, hs]
  rfl
theorem wk_held (h : Blk w t g (wk st size held blk last ws)) (hs : st.length = 8) : w.cell? ⟨g, 9, none⟩ = some (.int .i64 held) := by
  refine h.cell ?_
  unfold wk
  rw [List.getElem?_append_right (by rw [U_length]; omega), U_length, hs]
  rfl
theorem wk_blk (h : Blk w t g (wk st size held blk last ws)) (hs : st.length = 8) : w.rangeAt g 10 (B blk) := by
  have e : wk st size held blk last ws = (U st ++ [.int .u64 size, .int .i64 held]) ++ B blk ++ (B last ++ U ws) := by simp [wk]
  rw [e] at h
  exact h.rangeMid (by simp [U_length, hs])
theorem wk_last (h : Blk w t g (wk st size held blk last ws)) (hs : st.length = 8) (hb : blk.length = 64) : w.rangeAt g 74 (B last) := by
  have e : wk st size held blk last ws = (U st ++ [.int .u64 size, .int .i64 held] ++ B blk) ++ B last ++ U ws := by simp [wk]
  rw [e] at h
  exact h.rangeMid (by simp [U_length, B_length, hs, hb])
theorem wk_words (h : Blk w t g (wk st size held blk last ws)) (hs : st.length = 8) (hb : blk.length = 64) (hl : last.length = 64) : w.rangeAt g 138 (U ws) := by
  have e : wk st size held blk last ws = (U st ++ [.int .u64 size, .int .i64 held] ++ B blk ++ B last) ++ U ws ++ [] := by simp [wk]
  rw [e] at h
  exact h.rangeMid (by simp [U_length, B_length, hs, hb, hl])
theorem wk_setLast (h : Blk w t g (wk st size held blk last ws)) (hs : st.length = 8) (hb : blk.length = 64) (new : List UInt8) (hl : last.length = new.length) : Blk (w.setCells g 74 (B new)) t g (wk st size held blk new ws) := by
  have e : ∀ l, wk st size held blk l ws = (U st ++ [.int .u64 size, .int .i64 held] ++ B blk) ++ B l ++ U ws := by simp [wk]
  rw [e] at h ⊢
  exact Blk.setCells _ _ _ _ h (by simp [B_length, hl]) (by simp [U_length, B_length, hs, hb])
theorem wk_setWords (h : Blk w t g (wk st size held blk last ws)) (hs : st.length = 8) (hb : blk.length = 64) (hl : last.length = 64) (new : List UInt32) (hw : ws.length = new.length) : Blk (w.setCells g 138 (U new)) t g (wk st size held blk last new) := by
  have e : ∀ l, wk st size held blk last l = (U st ++ [.int .u64 size, .int .i64 held] ++ B blk ++ B last) ++ U l ++ [] := by simp [wk]
  rw [e] at h ⊢
  exact Blk.setCells _ _ _ _ h (by simp [U_length, hw]) (by simp [U_length, B_length, hs, hb, hl])
theorem wk_setState (h : Blk w t g (wk st size held blk last ws)) (j : Nat) (hj : j < st.length) (x : UInt32) : Blk (w.setCell ⟨g, j, none⟩ (.int .u32 (nt x))) t g (wk (st.set j x) size held blk last ws) := by
  have := h.setCell j (.int .u32 (nt x))
  have e : (wk st size held blk last ws).set j (.int .u32 (nt x)) = wk (st.set j x) size held blk last ws := by
    unfold wk
    rw [List.set_append_left _ _ (by rw [U_length]; exact hj)]
    congr 1
    rw [U, U, List.map_set]
  rwa [e] at this
end

theorem grown_setCells {w w' : World} {g : Nat} (h : w.grownBy w' (some g)) (vs : List Value) (o : Nat) : w.grownBy (w'.setCells g o vs) (some g) := by
  refine ⟨?_, ?_, ?_, ?_, ?_⟩
  · exact (below_setCells (Nat.zero_le g) vs o (Below.refl 0 w')).os.trans h.os
  · exact (below_setCells (Nat.zero_le g) vs o (Below.refl 0 w')).tape.trans h.tape
  · exact (below_setCells (Nat.zero_le g) vs o (Below.refl 0 w')).output.trans h.output
  · exact Nat.le_trans h.size (below_setCells (Nat.zero_le g) vs o (Below.refl 0 w')).size
  · intro k hk hne
    rw [setCells_heap (by intro e; exact hne (by rw [e])), h.block k hk hne]

/-- The state's words with the first k of them added to. -/
def addK (s r : S8) (k : Nat) : List UInt32 := (s.add r).l.take k ++ s.l.drop k

theorem Tryd.sizeByte (w : World) : (sizeOf 5).run Tryd.prog w = .ok 1 w := by
  obtain ⟨i0, hi, hz0, hz1, hz2⟩ := info_parts Tryd.infoByte
  simp [sizeOf, typeInfo, hi, hz1]
theorem Tryd.sizeWord : (Tryd.prog.info? 108).map (·.size) = some 1 := by kernel_rfl

theorem addK_len (s r : S8) (k : Nat) (h : k ≤ 8) : (addK s r k).length = 8 := by
  have : ∀ s : S8, s.l.length = 8 := fun _ => rfl
  simp only [addK, List.length_append, List.length_take, List.length_drop, this]
  omega

set_option maxRecDepth 100000 in
set_option maxHeartbeats 8000000 in
theorem stir_any (g : Nat) (h2 : 2 ≤ g) (s : S8) (size held : Int) (m last : List UInt8) (hm : m.length = 64) (hl : last.length = 64) (w : World) (hw : Blk w 115 g (wk s.l size held m last (spreadS last))) (ht : Tabs w) :
    Calls Tryd.prog 92 #[.pointer (some ⟨g, 0, none⟩)] w fun e w' => e = .returned (.tuple #[]) ∧ Blk w' 115 g (wk (stirS s (spreadS m)).l size held m m (spreadS m)) ∧ w.grownBy w' (some g) := by
  obtain ⟨ws, hws⟩ : ∃ ws, spreadS m = ws := ⟨_, rfl⟩
  have hwl : ws.length = 64 := by rw [← hws, spreadS_len]
  rw [hws]
  have HT := hid ht
  have HW := hid hw
  have HM := hid hm
  have HL := hid hl
  have HWS := hid hws
  have HWL := hid hwl
  clear ht hw hm hl hws hwl
  go_enter Tryd.func92, Tryd.ntmps92
  refine wp_scope_at 0 (fun a' w' => ∃ (i : Nat) (r : S8), a' = ⟨#[.pointer (some ⟨g, 0, none⟩), undef, .int .u32 (nt r.a), .int .u32 (nt r.b), .int .u32 (nt r.c), .int .u32 (nt r.d), .int .u32 (nt r.e), .int .u32 (nt r.f), .int .u32 (nt r.g), .int .u32 (nt r.h), .int .i64 (i : Nat), a'.tmps.getD 11 undef, a'.tmps.getD 12 undef, a'.tmps.getD 13 undef, a'.tmps.getD 14 undef, a'.tmps.getD 15 undef, a'.tmps.getD 16 undef, a'.tmps.getD 17 undef, a'.tmps.getD 18 undef, a'.tmps.getD 19 undef, a'.tmps.getD 20 undef, a'.tmps.getD 21 undef, a'.tmps.getD 22 undef, a'.tmps.getD 23 undef, a'.tmps.getD 24 undef, a'.tmps.getD 25 undef, a'.tmps.getD 26 undef, a'.tmps.getD 27 undef, a'.tmps.getD 28 undef, a'.tmps.getD 29 undef, a'.tmps.getD 30 undef, a'.tmps.getD 31 undef, a'.tmps.getD 32 undef, a'.tmps.getD 33 undef, a'.tmps.getD 34 undef, a'.tmps.getD 35 undef, a'.tmps.getD 36 undef, a'.tmps.getD 37 undef, a'.tmps.getD 38 undef, a'.tmps.getD 39 undef, a'.tmps.getD 40 undef, a'.tmps.getD 41 undef, a'.tmps.getD 42 undef, a'.tmps.getD 43 undef, a'.tmps.getD 44 undef, a'.tmps.getD 45 undef, a'.tmps.getD 46 undef, a'.tmps.getD 47 undef, a'.tmps.getD 48 undef, a'.tmps.getD 49 undef, a'.tmps.getD 50 undef, a'.tmps.getD 51 undef, a'.tmps.getD 52 undef, a'.tmps.getD 53 undef, a'.tmps.getD 54 undef, a'.tmps.getD 55 undef, a'.tmps.getD 56 undef, a'.tmps.getD 57 undef, a'.tmps.getD 58 undef, a'.tmps.getD 59 undef, a'.tmps.getD 60 undef, a'.tmps.getD 61 undef, a'.tmps.getD 62 undef, a'.tmps.getD 63 undef, a'.tmps.getD 64 undef, a'.tmps.getD 65 undef, a'.tmps.getD 66 undef, a'.tmps.getD 67 undef, a'.tmps.getD 68 undef, a'.tmps.getD 69 undef, a'.tmps.getD 70 undef, a'.tmps.getD 71 undef, a'.tmps.getD 72 undef, a'.tmps.getD 73 undef, a'.tmps.getD 74 undef, a'.tmps.getD 75 undef, a'.tmps.getD 76 undef, a'.tmps.getD 77 undef, a'.tmps.getD 78 undef, a'.tmps.getD 79 undef, a'.tmps.getD 80 undef, a'.tmps.getD 81 undef, a'.tmps.getD 82 undef, a'.tmps.getD 83 undef, a'.tmps.getD 84 undef, a'.tmps.getD 85 undef, a'.tmps.getD 86 undef, a'.tmps.getD 87 undef, a'.tmps.getD 88 undef, a'.tmps.getD 89 undef, a'.tmps.getD 90 undef, a'.tmps.getD 91 undef, a'.tmps.getD 92 undef, a'.tmps.getD 93 undef, a'.tmps.getD 94 undef, a'.tmps.getD 95 undef, a'.tmps.getD 96 undef, a'.tmps.getD 97 undef, a'.tmps.getD 98 undef, a'.tmps.getD 99 undef, a'.tmps.getD 100 undef, a'.tmps.getD 101 undef, a'.tmps.getD 102 undef, a'.tmps.getD 103 undef, a'.tmps.getD 104 undef, a'.tmps.getD 105 undef, a'.tmps.getD 106 undef, a'.tmps.getD 107 undef, a'.tmps.getD 108 undef, a'.tmps.getD 109 undef, a'.tmps.getD 110 undef, a'.tmps.getD 111 undef, a'.tmps.getD 112 undef, a'.tmps.getD 113 undef, a'.tmps.getD 114 undef, a'.tmps.getD 115 undef, a'.tmps.getD 116 undef, a'.tmps.getD 117 undef, a'.tmps.getD 118 undef, a'.tmps.getD 119 undef, a'.tmps.getD 120 undef, a'.tmps.getD 121 undef, a'.tmps.getD 122 undef, a'.tmps.getD 123 undef, a'.tmps.getD 124 undef, a'.tmps.getD 125 undef, a'.tmps.getD 126 undef, a'.tmps.getD 127 undef, a'.tmps.getD 128 undef, a'.tmps.getD 129 undef, a'.tmps.getD 130 undef, a'.tmps.getD 131 undef, a'.tmps.getD 132 undef, a'.tmps.getD 133 undef, a'.tmps.getD 134 undef, a'.tmps.getD 135 undef, a'.tmps.getD 136 undef, a'.tmps.getD 137 undef, a'.tmps.getD 138 undef, a'.tmps.getD 139 undef, a'.tmps.getD 140 undef, a'.tmps.getD 141 undef, a'.tmps.getD 142 undef, a'.tmps.getD 143 undef, a'.tmps.getD 144 undef, a'.tmps.getD 145 undef, a'.tmps.getD 146 undef, a'.tmps.getD 147 undef, a'.tmps.getD 148 undef, a'.tmps.getD 149 undef, a'.tmps.getD 150 undef, a'.tmps.getD 151 undef, a'.tmps.getD 152 undef, a'.tmps.getD 153 undef, a'.tmps.getD 154 undef, a'.tmps.getD 155 undef, a'.tmps.getD 156 undef], []⟩ ∧ i < 64 ∧ r = rnds ws s i ∧ Blk w' 115 g (wk s.l size held m m ws) ∧ w.grownBy w' (some g))
    (fun a' _ => 64 - (intOf (a'.tmps.getD 10 undef)).toNat) rfl ?pass ?first
  case first =>
    intro hy
    have HY := hid hy
    clear hy
    obtain ⟨c1, hc1⟩ : ∃ c1, B m = c1 := ⟨_, rfl⟩
    obtain ⟨c2, hc2⟩ : ∃ c2, B last = c2 := ⟨_, rfl⟩
    have hl1 : c1.length = 64 := by rw [← hc1, B_length, HM.out]
    have hl2 : c2.length = 64 := by rw [← hc2, B_length, HL.out]
    have ho1 : ∀ v ∈ c1, v.oneCell' = true := by rw [← hc1]; exact B_one m
    have ho2 : ∀ v ∈ c2, v.oneCell' = true := by rw [← hc2]; exact B_one last
    have hr1 : w.rangeAt g 10 c1 := by rw [← hc1]; exact wk_blk HW.out rfl
    have hr2 : w.rangeAt g 74 c2 := by rw [← hc2]; exact wk_last HW.out rfl HM.out
    have hu := Tryd.underlying113
    have hi1 : (Tryd.prog.info? 113).map (·.size) = some c1.length := by rw [hl1]; kernel_rfl
    have hi2 : (Tryd.prog.info? 113).map (·.size) = some c2.length := by rw [hl2]; kernel_rfl
    have hE : ∀ w, (Op.equalIn 10000 113 (.agg c1.toArray) (.agg c2.toArray)).run Tryd.prog w = .ok (m == last) w := by
      intro w
      rw [← hc1, ← hc2]
      exact run_equalIn_bytes w 9998 113 5 64 Tryd.underlying113 Tryd.underlying5 Tryd.sizeByte m last HM.out HL.out
    have HC1 := hid hc1
    clear hc1 hc2
    by_cases hml : m = last
    · have hE' : ∀ w, (Op.equalIn 10000 113 (.agg c1.toArray) (.agg c2.toArray)).run Tryd.prog w = .ok true w := by intro w; rw [hE w, hml]; simp
      have HML := hid hml
      clear hE hml
      go_wp2_with fail
      refine wp_region_held_drew (S := fun w' => w'.rangeAt g 10 c1 ∧ w'.rangeAt g 74 c2) (by kernel_rfl) (⟨hr1, hr2⟩) (fun hHeld => ?_)
      refine wpAnyH_take (i := 0) (v := .pointer (some ⟨g, 0, none⟩)) rfl (by kernel_rfl) (by kernel_rfl) (by kernel_rfl) (fun _ _ _ h => h) (Or.inl ⟨by rfl, by intro w hSw; go_simp⟩) hHeld ?_
      try simp only [Act.put, List.setIfInBounds_toArray, List.set_cons_zero, List.set_cons_succ, List.getElem_toArray, List.getElem_cons_zero, List.getElem_cons_succ]
      refine wpAnyH_take (i := 1) (v := .pointer (some ⟨g, 0, none⟩)) rfl (by kernel_rfl) (by kernel_rfl) (by kernel_rfl) (fun _ _ _ h => h) (Or.inl ⟨by rfl, by intro w hSw; go_simp⟩) hHeld ?_
      try simp only [Act.put, List.setIfInBounds_toArray, List.set_cons_zero, List.set_cons_succ, List.getElem_toArray, List.getElem_cons_zero, List.getElem_cons_succ]
      refine wpAnyH_take (i := 2) (v := .pointer (some ⟨g, 10, none⟩)) rfl (by kernel_rfl) (by kernel_rfl) (by kernel_rfl) (fun _ _ _ h => h) (Or.inl ⟨by rfl, by intro w hSw; go_simp⟩) hHeld ?_
      try simp only [Act.put, List.setIfInBounds_toArray, List.set_cons_zero, List.set_cons_succ, List.getElem_toArray, List.getElem_cons_zero, List.getElem_cons_succ]
      refine wpAnyH_take (i := 3) (v := _) rfl (by kernel_rfl) (by kernel_rfl) (by kernel_rfl) (fun _ _ _ h => h) (yieldsIf_load_mid (by rfl) _ _ rfl _ _ rfl c1 _ (fun w hSw => hSw.1) hu rfl hi1) hHeld ?_
      try simp only [Act.put, List.setIfInBounds_toArray, List.set_cons_zero, List.set_cons_succ, List.getElem_toArray, List.getElem_cons_zero, List.getElem_cons_succ]
      refine wpAnyH_take (i := 4) (v := .pointer (some ⟨g, 0, none⟩)) rfl (by kernel_rfl) (by kernel_rfl) (by kernel_rfl) (fun _ _ _ h => h) (Or.inl ⟨by rfl, by intro w hSw; go_simp⟩) hHeld ?_
      try simp only [Act.put, List.setIfInBounds_toArray, List.set_cons_zero, List.set_cons_succ, List.getElem_toArray, List.getElem_cons_zero, List.getElem_cons_succ]
      refine wpAnyH_take (i := 5) (v := .pointer (some ⟨g, 0, none⟩)) rfl (by kernel_rfl) (by kernel_rfl) (by kernel_rfl) (fun _ _ _ h => h) (Or.inl ⟨by rfl, by intro w hSw; go_simp⟩) hHeld ?_
      try simp only [Act.put, List.setIfInBounds_toArray, List.set_cons_zero, List.set_cons_succ, List.getElem_toArray, List.getElem_cons_zero, List.getElem_cons_succ]
      refine wpAnyH_take (i := 6) (v := .pointer (some ⟨g, 74, none⟩)) rfl (by kernel_rfl) (by kernel_rfl) (by kernel_rfl) (fun _ _ _ h => h) (Or.inl ⟨by rfl, by intro w hSw; go_simp⟩) hHeld ?_
      try simp only [Act.put, List.setIfInBounds_toArray, List.set_cons_zero, List.set_cons_succ, List.getElem_toArray, List.getElem_cons_zero, List.getElem_cons_succ]
      refine wpAnyH_take (i := 7) (v := _) rfl (by kernel_rfl) (by kernel_rfl) (by kernel_rfl) (fun _ _ _ h => h) (yieldsIf_load_mid (by rfl) _ _ rfl _ _ rfl c2 _ (fun w hSw => hSw.2) hu rfl hi2) hHeld ?_
      try simp only [Act.put, List.setIfInBounds_toArray, List.set_cons_zero, List.set_cons_succ, List.getElem_toArray, List.getElem_cons_zero, List.getElem_cons_succ]
      refine wpAnyH_take (i := 8) (v := .bool false) rfl (by kernel_rfl) (by kernel_rfl) (by kernel_rfl) (fun _ _ _ h => h) (Or.inl ⟨by rfl, by intro w hSw; go_simp⟩) hHeld ?_
      try simp only [Act.put, List.setIfInBounds_toArray, List.set_cons_zero, List.set_cons_succ, List.getElem_toArray, List.getElem_cons_zero, List.getElem_cons_succ]
      refine wpAnyH_done (by kernel_rfl) ?_ _
      have hBm : Blk w.drew 115 g (wk s.l size held m m ws) := by
        have := HW.out
        rw [← HML.out, HWS.out] at this
        exact this
      have hgm : w.grownBy w.drew (some g) := grown_drew (World.grownBy.refl _ _)
      clear hr1 hr2 hu hi1 hi2 hE' hl1 hl2 ho1 ho2
      generalize w.drew = wd at *
      have HBm := hid hBm
      have Hgm := hid hgm
      have z0 := wk_state hBm 0 (by show 0 < 8; omega)
      have z1 := wk_state hBm 1 (by show 1 < 8; omega)
      have z2 := wk_state hBm 2 (by show 2 < 8; omega)
      have z3 := wk_state hBm 3 (by show 3 < 8; omega)
      have z4 := wk_state hBm 4 (by show 4 < 8; omega)
      have z5 := wk_state hBm 5 (by show 5 < 8; omega)
      have z6 := wk_state hBm 6 (by show 6 < 8; omega)
      have z7 := wk_state hBm 7 (by show 7 < 8; omega)
      simp only [S8.l, List.getD_cons_zero, List.getD_cons_succ] at z0 z1 z2 z3 z4 z5 z6 z7
      clear hBm hgm
      go_wp2_with fail
      go_quiet (fail)
      go_wp2_with fail
      go_quiet (fail)
      go_wp2_with fail
      rename_i hK
      exact wp_label (hK _ _ (HY.out _ _ ⟨0, s, rfl, by omega, rfl, HBm.out.kept rfl, grown_drewN (grown_drewN Hgm.out _) _⟩))
    · have hE' : ∀ w, (Op.equalIn 10000 113 (.agg c1.toArray) (.agg c2.toArray)).run Tryd.prog w = .ok false w := by intro w; rw [hE w]; simp [hml]
      clear hE hml
      go_wp2_with fail
      refine wp_region_held_drew (S := fun w' => w'.rangeAt g 10 c1 ∧ w'.rangeAt g 74 c2) (by kernel_rfl) (⟨hr1, hr2⟩) (fun hHeld => ?_)
      refine wpAnyH_take (i := 0) (v := .pointer (some ⟨g, 0, none⟩)) rfl (by kernel_rfl) (by kernel_rfl) (by kernel_rfl) (fun _ _ _ h => h) (Or.inl ⟨by rfl, by intro w hSw; go_simp⟩) hHeld ?_
      try simp only [Act.put, List.setIfInBounds_toArray, List.set_cons_zero, List.set_cons_succ, List.getElem_toArray, List.getElem_cons_zero, List.getElem_cons_succ]
      refine wpAnyH_take (i := 1) (v := .pointer (some ⟨g, 0, none⟩)) rfl (by kernel_rfl) (by kernel_rfl) (by kernel_rfl) (fun _ _ _ h => h) (Or.inl ⟨by rfl, by intro w hSw; go_simp⟩) hHeld ?_
      try simp only [Act.put, List.setIfInBounds_toArray, List.set_cons_zero, List.set_cons_succ, List.getElem_toArray, List.getElem_cons_zero, List.getElem_cons_succ]
      refine wpAnyH_take (i := 2) (v := .pointer (some ⟨g, 10, none⟩)) rfl (by kernel_rfl) (by kernel_rfl) (by kernel_rfl) (fun _ _ _ h => h) (Or.inl ⟨by rfl, by intro w hSw; go_simp⟩) hHeld ?_
      try simp only [Act.put, List.setIfInBounds_toArray, List.set_cons_zero, List.set_cons_succ, List.getElem_toArray, List.getElem_cons_zero, List.getElem_cons_succ]
      refine wpAnyH_take (i := 3) (v := _) rfl (by kernel_rfl) (by kernel_rfl) (by kernel_rfl) (fun _ _ _ h => h) (yieldsIf_load_mid (by rfl) _ _ rfl _ _ rfl c1 _ (fun w hSw => hSw.1) hu rfl hi1) hHeld ?_
      try simp only [Act.put, List.setIfInBounds_toArray, List.set_cons_zero, List.set_cons_succ, List.getElem_toArray, List.getElem_cons_zero, List.getElem_cons_succ]
      refine wpAnyH_take (i := 4) (v := .pointer (some ⟨g, 0, none⟩)) rfl (by kernel_rfl) (by kernel_rfl) (by kernel_rfl) (fun _ _ _ h => h) (Or.inl ⟨by rfl, by intro w hSw; go_simp⟩) hHeld ?_
      try simp only [Act.put, List.setIfInBounds_toArray, List.set_cons_zero, List.set_cons_succ, List.getElem_toArray, List.getElem_cons_zero, List.getElem_cons_succ]
      refine wpAnyH_take (i := 5) (v := .pointer (some ⟨g, 0, none⟩)) rfl (by kernel_rfl) (by kernel_rfl) (by kernel_rfl) (fun _ _ _ h => h) (Or.inl ⟨by rfl, by intro w hSw; go_simp⟩) hHeld ?_
      try simp only [Act.put, List.setIfInBounds_toArray, List.set_cons_zero, List.set_cons_succ, List.getElem_toArray, List.getElem_cons_zero, List.getElem_cons_succ]
      refine wpAnyH_take (i := 6) (v := .pointer (some ⟨g, 74, none⟩)) rfl (by kernel_rfl) (by kernel_rfl) (by kernel_rfl) (fun _ _ _ h => h) (Or.inl ⟨by rfl, by intro w hSw; go_simp⟩) hHeld ?_
      try simp only [Act.put, List.setIfInBounds_toArray, List.set_cons_zero, List.set_cons_succ, List.getElem_toArray, List.getElem_cons_zero, List.getElem_cons_succ]
      refine wpAnyH_take (i := 7) (v := _) rfl (by kernel_rfl) (by kernel_rfl) (by kernel_rfl) (fun _ _ _ h => h) (yieldsIf_load_mid (by rfl) _ _ rfl _ _ rfl c2 _ (fun w hSw => hSw.2) hu rfl hi2) hHeld ?_
      try simp only [Act.put, List.setIfInBounds_toArray, List.set_cons_zero, List.set_cons_succ, List.getElem_toArray, List.getElem_cons_zero, List.getElem_cons_succ]
      refine wpAnyH_take (i := 8) (v := .bool true) rfl (by kernel_rfl) (by kernel_rfl) (by kernel_rfl) (fun _ _ _ h => h) (Or.inl ⟨by rfl, by intro w hSw; go_simp⟩) hHeld ?_
      try simp only [Act.put, List.setIfInBounds_toArray, List.set_cons_zero, List.set_cons_succ, List.getElem_toArray, List.getElem_cons_zero, List.getElem_cons_succ]
      refine wpAnyH_done (by kernel_rfl) ?_ _
      have H1 := hid (show Blk w.drew 115 g (wk s.l size held m last (spreadS last)) from HW.out)
      have hgm : w.grownBy w.drew (some g) := grown_drew (World.grownBy.refl _ _)
      have Hg1 := hid hgm
      have HR1 := hid (show w.drew.rangeAt g 10 c1 from hr1)
      have Hho1 := hid ho1
      have Hhi1 := hid hi1
      have Hl1 := hid hl1
      clear hr1 hr2 hu hi1 hi2 hE' hl1 hl2 ho1 ho2 hgm
      generalize w.drew = wd at *
      have HTh := hid (show wd.there g 74 c1.length by rw [Hl1.out]; exact H1.out.there (by simp only [wk, List.length_append, U_length, B_length, HM.out, HL.out, spreadS_len, List.length_cons, List.length_nil]; show 74 + 64 ≤ 8 + _; omega))
      go_wp2_with (first
        | (show wpList _ _ _ (⟨some 28, Op.load _ _, _, _, _, _⟩ :: _) _ _; go_must (refine wpList_load_mid rfl 113 _ rfl g 10 rfl c1 _ HR1.out Tryd.underlying113 rfl Hhi1.out ?_))
        | (show wpList _ _ _ (⟨none, Op.store _ _ _, _, _, _, _⟩ :: _) _ _; go_must (refine wpList_store_list rfl 113 _ _ rfl g 74 c1 rfl rfl HTh.out Hhi1.out Hho1.out ?_); intro w1 hw1; replace hw1 := hid hw1))
      have HB1 := hid (show Blk w1 115 g (wk s.l size held m m (spreadS last)) by rw [hw1.out, ← HC1.out]; exact wk_setLast H1.out rfl HM.out m (by rw [HM.out, HL.out]))
      have Hg2 := hid (show w.grownBy w1 (some g) by rw [hw1.out]; exact grown_setCells Hg1.out _ _)
      clear hw1 HTh HR1 H1 Hg1
      refine (spread_any g 10 m HM.out _ (wk_blk HB1.out rfl)).mono ?_
      rintro e w2 ⟨rfl, hb2⟩
      have hB2 := HB1.out.later hb2
      have Hg3 := hid (grown_trans Hg2.out (grown_of_below (row := some g) hb2))
      rw [HWS.out]
      obtain ⟨us, hus⟩ : ∃ us, U ws = us := ⟨_, rfl⟩
      rw [hus]
      have hul : us.length = 64 := by rw [← hus, U_length, HWL.out]
      have hi3 := hid (show (Tryd.prog.info? 109).map (·.size) = some us.length by rw [hul]; kernel_rfl)
      have ho3 := hid (show ∀ v ∈ us, v.oneCell' = true by rw [← hus]; exact U_one ws)
      have ht3 := hid (show w2.there g 138 us.length by rw [hul]; exact hB2.there (by simp only [wk, List.length_append, U_length, B_length, HM.out, spreadS_len, List.length_cons, List.length_nil]; show 138 + 64 ≤ 8 + _; omega))
      have HUS := hid hus
      have HB2 := hid hB2
      clear hB2 hb2 hus hul HB1 Hg2
      go_wp2_with (show wpList _ _ _ (⟨none, Op.store _ _ _, _, _, _, _⟩ :: _) _ _; go_must (refine wpList_store_list rfl 109 _ _ rfl g 138 us rfl rfl ht3.out hi3.out ho3.out ?_); intro w3 hw3; replace hw3 := hid hw3)
      have hBm : Blk w3 115 g (wk s.l size held m m ws) := by rw [hw3.out, ← HUS.out]; exact wk_setWords HB2.out rfl HM.out HM.out ws (by rw [spreadS_len, HWL.out])
      have hgm : w.grownBy w3 (some g) := by rw [hw3.out]; exact grown_setCells Hg3.out _ _
      clear hw3 HB2 Hg3 ht3 hi3 ho3
      have HBm := hid hBm
      have Hgm := hid hgm
      have z0 := wk_state hBm 0 (by show 0 < 8; omega)
      have z1 := wk_state hBm 1 (by show 1 < 8; omega)
      have z2 := wk_state hBm 2 (by show 2 < 8; omega)
      have z3 := wk_state hBm 3 (by show 3 < 8; omega)
      have z4 := wk_state hBm 4 (by show 4 < 8; omega)
      have z5 := wk_state hBm 5 (by show 5 < 8; omega)
      have z6 := wk_state hBm 6 (by show 6 < 8; omega)
      have z7 := wk_state hBm 7 (by show 7 < 8; omega)
      simp only [S8.l, List.getD_cons_zero, List.getD_cons_succ] at z0 z1 z2 z3 z4 z5 z6 z7
      clear hBm hgm
      go_wp2_with fail
      go_quiet (fail)
      go_wp2_with fail
      go_quiet (fail)
      go_wp2_with fail
      rename_i hK
      exact wp_label (hK _ _ (HY.out _ _ ⟨0, s, rfl, by omega, rfl, HBm.out.kept rfl, grown_drewN (grown_drewN Hgm.out _) _⟩))
  case pass =>
    rintro a' w' ⟨i, r, ha, h64, hr, hB, hg⟩
    obtain ⟨f, ha2⟩ : ∃ f : Nat → Value, a' = ⟨#[.pointer (some ⟨g, 0, none⟩), undef, .int .u32 (nt r.a), .int .u32 (nt r.b), .int .u32 (nt r.c), .int .u32 (nt r.d), .int .u32 (nt r.e), .int .u32 (nt r.f), .int .u32 (nt r.g), .int .u32 (nt r.h), .int .i64 (i : Nat), f 11, f 12, f 13, f 14, f 15, f 16, f 17, f 18, f 19, f 20, f 21, f 22, f 23, f 24, f 25, f 26, f 27, f 28, f 29, f 30, f 31, f 32, f 33, f 34, f 35, f 36, f 37, f 38, f 39, f 40, f 41, f 42, f 43, f 44, f 45, f 46, f 47, f 48, f 49, f 50, f 51, f 52, f 53, f 54, f 55, f 56, f 57, f 58, f 59, f 60, f 61, f 62, f 63, f 64, f 65, f 66, f 67, f 68, f 69, f 70, f 71, f 72, f 73, f 74, f 75, f 76, f 77, f 78, f 79, f 80, f 81, f 82, f 83, f 84, f 85, f 86, f 87, f 88, f 89, f 90, f 91, f 92, f 93, f 94, f 95, f 96, f 97, f 98, f 99, f 100, f 101, f 102, f 103, f 104, f 105, f 106, f 107, f 108, f 109, f 110, f 111, f 112, f 113, f 114, f 115, f 116, f 117, f 118, f 119, f 120, f 121, f 122, f 123, f 124, f 125, f 126, f 127, f 128, f 129, f 130, f 131, f 132, f 133, f 134, f 135, f 136, f 137, f 138, f 139, f 140, f 141, f 142, f 143, f 144, f 145, f 146, f 147, f 148, f 149, f 150, f 151, f 152, f 153, f 154, f 155, f 156], []⟩ := ⟨fun j => a'.tmps.getD j undef, ha⟩
    clear ha
    subst ha2
    have hT' := HT.out.grown hg h2
    obtain ⟨k, hk⟩ : ∃ k, K.getD i 0 = k := ⟨_, rfl⟩
    obtain ⟨x, hx⟩ : ∃ x, ws.getD i 0 = x := ⟨_, rfl⟩
    have ck : w'.cell? ⟨1, i, none⟩ = some (.int .u32 (nt k)) := by
      have := hT'.keys i _ (U_getD K i (by rw [K_len]; exact h64))
      rw [Nat.zero_add, hk] at this
      exact this
    have cx : w'.cell? ⟨g, 138 + i, none⟩ = some (.int .u32 (nt x)) := by
      have := wk_words hB rfl HM.out HM.out i _ (U_getD ws i (by rw [HWL.out]; exact h64))
      rw [hx] at this
      exact this
    have HR := hid (show rnds ws s (i + 1) = rnd r k x by rw [rnds, ← hr, hk, hx])
    have HB := hid hB
    have Hg := hid hg
    clear hT' hk hx hB hg hr
    have hi0 : (0 : Int) ≤ (i : Int) := by omega
    have hi64 : (i : Int) < 64 := by omega
    go_wp2_with fail
    refine wp_region_quiet_lit (by kernel_rfl) (by kernel_rfl) ?_
    iterate 2 (go_big_quiet_step (fail))
    go_big_quiet_want
    go_big_quiet_op
    apply Exists.intro
    refine ⟨fun _ => ?_, ?_⟩
    · exact Calls.quiet_of_same (turn_any r.e _ _ _ 6 11 25 (by rfl) (by rfl) (by rfl) (by omega) (by omega) (by omega) (by omega) (by omega) (by omega) _)
    go_big_quiet_on
    iterate 22 (go_big_quiet_step (fail))
    refine wpQuiet_nil ?_
    intro _ hw'
    obtain ⟨nq, hw''⟩ := hw'
    subst hw''
    go_wp2_with fail
    refine (turn_any r.a _ _ _ 2 13 22 (by rfl) (by rfl) (by rfl) (by omega) (by omega) (by omega) (by omega) (by omega) (by omega) _).mono ?_
    rintro e w2 ⟨rfl, rfl⟩
    have HB' := hid (HB.out.drewN nq)
    have Hg' := hid (grown_drewN Hg.out nq)
    generalize w'.drewN nq = w2 at *
    clear HB Hg ck cx
    by_cases hlt : i + 1 < 64
    · have hlt' : (i : Int) + 1 < 64 := by omega
      go_wp2_with fail
      go_step3
      exact ⟨rfl, ⟨i + 1, rnd r k x, rfl, hlt, HR.out.symm, HB'.out, Hg'.out⟩, by simp [intOf]; omega⟩
    · have hlt' : ¬ (i : Int) + 1 < 64 := by omega
      have hi63 : i = 63 := by omega
      subst hi63
      have HQ := hid (show stirS s ws = s.add (rnd r k x) by rw [stirS, ← HR.out])
      go_wp2_with fail
      clear hlt hlt' hi0 hi64 h64
      go_loopw [141] (fun i wr => ∃ j : Nat, j ≤ 8 ∧ i = .int .i64 j ∧ Blk wr 115 g (wk (addK s (rnd r k x) j) size held m m ws) ∧ w.grownBy wr (some g)) (fun i _ => 8 - (intOf i).toNat)
      case atStart => exact ⟨0, Nat.zero_le _, rfl, HB'.out, Hg'.out⟩
      case round =>
        obtain ⟨j, hj, rfl, hB, hg⟩ := hrel
        have Hg2 := hid hg
        have HB2 := hid hB
        clear hg hB
        by_cases hlt : j < 8
        · have hjc : j = 0 ∨ j = 1 ∨ j = 2 ∨ j = 3 ∨ j = 4 ∨ j = 5 ∨ j = 6 ∨ j = 7 := by omega
          rcases hjc with rfl | rfl | rfl | rfl | rfl | rfl | rfl | rfl
          · have c : wr.cell? ⟨g, 0, none⟩ = some (.int .u32 (nt s.a)) := wk_state HB2.out 0 (by rw [addK_len _ _ _ hj]; omega)
            have fr := HB2.out.frozen 0
            have HS := hid (wk_setState HB2.out 0 (by rw [addK_len _ _ _ hj]; omega))
            go_wp2_with (show wpList _ _ _ (⟨_, Op.index _ _ _, _, _, _, _⟩ :: _) _ _; go_must (refine wpList_index_agg rfl 111 _ _ rfl 108 8 .u32 Tryd.underlying111 Tryd.underlying108 Tryd.sizeWord _ .i64 0 rfl rfl (by omega) (.int .u32 (nt (rnd r k x).a)) rfl ?_))
            go_region
            go_wp2_with fail
            go_roundw
            case rel => exact ⟨1, by omega, rfl, (HS.out (s.a + (rnd r k x).a)).kept rfl, grown_drew (grown_setCell Hg2.out g 0 _ (.inl rfl))⟩
            case measure => simp [intOf]
          · have c : wr.cell? ⟨g, 1, none⟩ = some (.int .u32 (nt s.b)) := wk_state HB2.out 1 (by rw [addK_len _ _ _ hj]; omega)
            have fr := HB2.out.frozen 1
            have HS := hid (wk_setState HB2.out 1 (by rw [addK_len _ _ _ hj]; omega))
            go_wp2_with (show wpList _ _ _ (⟨_, Op.index _ _ _, _, _, _, _⟩ :: _) _ _; go_must (refine wpList_index_agg rfl 111 _ _ rfl 108 8 .u32 Tryd.underlying111 Tryd.underlying108 Tryd.sizeWord _ .i64 1 rfl rfl (by omega) (.int .u32 (nt (rnd r k x).b)) rfl ?_))
            go_region
            go_wp2_with fail
            go_roundw
            case rel => exact ⟨2, by omega, rfl, (HS.out (s.b + (rnd r k x).b)).kept rfl, grown_drew (grown_setCell Hg2.out g 1 _ (.inl rfl))⟩
            case measure => simp [intOf]
          · have c : wr.cell? ⟨g, 2, none⟩ = some (.int .u32 (nt s.c)) := wk_state HB2.out 2 (by rw [addK_len _ _ _ hj]; omega)
            have fr := HB2.out.frozen 2
            have HS := hid (wk_setState HB2.out 2 (by rw [addK_len _ _ _ hj]; omega))
            go_wp2_with (show wpList _ _ _ (⟨_, Op.index _ _ _, _, _, _, _⟩ :: _) _ _; go_must (refine wpList_index_agg rfl 111 _ _ rfl 108 8 .u32 Tryd.underlying111 Tryd.underlying108 Tryd.sizeWord _ .i64 2 rfl rfl (by omega) (.int .u32 (nt (rnd r k x).c)) rfl ?_))
            go_region
            go_wp2_with fail
            go_roundw
            case rel => exact ⟨3, by omega, rfl, (HS.out (s.c + (rnd r k x).c)).kept rfl, grown_drew (grown_setCell Hg2.out g 2 _ (.inl rfl))⟩
            case measure => simp [intOf]
          · have c : wr.cell? ⟨g, 3, none⟩ = some (.int .u32 (nt s.d)) := wk_state HB2.out 3 (by rw [addK_len _ _ _ hj]; omega)
            have fr := HB2.out.frozen 3
            have HS := hid (wk_setState HB2.out 3 (by rw [addK_len _ _ _ hj]; omega))
            go_wp2_with (show wpList _ _ _ (⟨_, Op.index _ _ _, _, _, _, _⟩ :: _) _ _; go_must (refine wpList_index_agg rfl 111 _ _ rfl 108 8 .u32 Tryd.underlying111 Tryd.underlying108 Tryd.sizeWord _ .i64 3 rfl rfl (by omega) (.int .u32 (nt (rnd r k x).d)) rfl ?_))
            go_region
            go_wp2_with fail
            go_roundw
            case rel => exact ⟨4, by omega, rfl, (HS.out (s.d + (rnd r k x).d)).kept rfl, grown_drew (grown_setCell Hg2.out g 3 _ (.inl rfl))⟩
            case measure => simp [intOf]
          · have c : wr.cell? ⟨g, 4, none⟩ = some (.int .u32 (nt s.e)) := wk_state HB2.out 4 (by rw [addK_len _ _ _ hj]; omega)
            have fr := HB2.out.frozen 4
            have HS := hid (wk_setState HB2.out 4 (by rw [addK_len _ _ _ hj]; omega))
            go_wp2_with (show wpList _ _ _ (⟨_, Op.index _ _ _, _, _, _, _⟩ :: _) _ _; go_must (refine wpList_index_agg rfl 111 _ _ rfl 108 8 .u32 Tryd.underlying111 Tryd.underlying108 Tryd.sizeWord _ .i64 4 rfl rfl (by omega) (.int .u32 (nt (rnd r k x).e)) rfl ?_))
            go_region
            go_wp2_with fail
            go_roundw
            case rel => exact ⟨5, by omega, rfl, (HS.out (s.e + (rnd r k x).e)).kept rfl, grown_drew (grown_setCell Hg2.out g 4 _ (.inl rfl))⟩
            case measure => simp [intOf]
          · have c : wr.cell? ⟨g, 5, none⟩ = some (.int .u32 (nt s.f)) := wk_state HB2.out 5 (by rw [addK_len _ _ _ hj]; omega)
            have fr := HB2.out.frozen 5
            have HS := hid (wk_setState HB2.out 5 (by rw [addK_len _ _ _ hj]; omega))
            go_wp2_with (show wpList _ _ _ (⟨_, Op.index _ _ _, _, _, _, _⟩ :: _) _ _; go_must (refine wpList_index_agg rfl 111 _ _ rfl 108 8 .u32 Tryd.underlying111 Tryd.underlying108 Tryd.sizeWord _ .i64 5 rfl rfl (by omega) (.int .u32 (nt (rnd r k x).f)) rfl ?_))
            go_region
            go_wp2_with fail
            go_roundw
            case rel => exact ⟨6, by omega, rfl, (HS.out (s.f + (rnd r k x).f)).kept rfl, grown_drew (grown_setCell Hg2.out g 5 _ (.inl rfl))⟩
            case measure => simp [intOf]
          · have c : wr.cell? ⟨g, 6, none⟩ = some (.int .u32 (nt s.g)) := wk_state HB2.out 6 (by rw [addK_len _ _ _ hj]; omega)
            have fr := HB2.out.frozen 6
            have HS := hid (wk_setState HB2.out 6 (by rw [addK_len _ _ _ hj]; omega))
            go_wp2_with (show wpList _ _ _ (⟨_, Op.index _ _ _, _, _, _, _⟩ :: _) _ _; go_must (refine wpList_index_agg rfl 111 _ _ rfl 108 8 .u32 Tryd.underlying111 Tryd.underlying108 Tryd.sizeWord _ .i64 6 rfl rfl (by omega) (.int .u32 (nt (rnd r k x).g)) rfl ?_))
            go_region
            go_wp2_with fail
            go_roundw
            case rel => exact ⟨7, by omega, rfl, (HS.out (s.g + (rnd r k x).g)).kept rfl, grown_drew (grown_setCell Hg2.out g 6 _ (.inl rfl))⟩
            case measure => simp [intOf]
          · have c : wr.cell? ⟨g, 7, none⟩ = some (.int .u32 (nt s.h)) := wk_state HB2.out 7 (by rw [addK_len _ _ _ hj]; omega)
            have fr := HB2.out.frozen 7
            have HS := hid (wk_setState HB2.out 7 (by rw [addK_len _ _ _ hj]; omega))
            go_wp2_with (show wpList _ _ _ (⟨_, Op.index _ _ _, _, _, _, _⟩ :: _) _ _; go_must (refine wpList_index_agg rfl 111 _ _ rfl 108 8 .u32 Tryd.underlying111 Tryd.underlying108 Tryd.sizeWord _ .i64 7 rfl rfl (by omega) (.int .u32 (nt (rnd r k x).h)) rfl ?_))
            go_region
            go_wp2_with fail
            go_roundw
            case rel => exact ⟨8, by omega, rfl, (HS.out (s.h + (rnd r k x).h)).kept rfl, grown_drew (grown_setCell Hg2.out g 7 _ (.inl rfl))⟩
            case measure => simp [intOf]
        · have hj8 : j = 8 := by omega
          subst hj8
          go_wp2_with fail
          simp only [Exit.jump]
          exact bodyPost_end (results_none rfl _ _ _) rfl ⟨rfl, by rw [HQ.out]; exact HB2.out, Hg2.out⟩
end Go.Proofs.YtinifnpajkldbaaDoor
