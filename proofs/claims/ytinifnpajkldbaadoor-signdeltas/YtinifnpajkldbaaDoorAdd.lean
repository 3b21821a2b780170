/- The contract of add: bytes into blocks, each whole one into the state. -/
import Derived.Test.YtinifnpajkldbaaDoorStir
import Derived.Test.YtinifnpajkldbaaDoorPk7
namespace Go.Proofs.YtinifnpajkldbaaDoor
open Go.RowKit
set_option linter.unusedSimpArgs false
set_option linter.unusedVariables false
attribute [local go_sem] wadd wadd' wxor wand wnot

section
variable {w : World} {t : TypeId} {g : Nat} {st : List UInt32} {size held : Int} {blk last : List UInt8} {ws : List UInt32}
theorem wk_setSize (h : Blk w t g (wk st size held blk last ws)) (hs : st.length = 8) (z : Int) : Blk (w.setCell ⟨g, 8, none⟩ (.int .u64 z)) t g (wk st z held blk last ws) := by
  have := h.setCell 8 (.int .u64 z)
  have e : (wk st size held blk last ws).set 8 (.int .u64 z) = wk st z held blk last ws := by
    unfold wk
    rw [List.set_append_right _ _ (by rw [U_length]; omega), U_length, hs]
    rfl
  rwa [e] at this
theorem wk_setHeld (h : Blk w t g (wk st size held blk last ws)) (hs : st.length = 8) (z : Int) : Blk (w.setCell ⟨g, 9, none⟩ (.int .i64 z)) t g (wk st size z blk last ws) := by
  have := h.setCell 9 (.int .i64 z)
  have e : (wk st size held blk last ws).set 9 (.int .i64 z) = wk st size z blk last ws := by
    unfold wk
    rw [List.set_append_right _ _ (by rw [U_length]; omega), U_length, hs]
    rfl
  rwa [e] at this
theorem wk_into (h : Blk w t g (wk st size held blk last ws)) (hs : st.length = 8) (hb : blk.length = 64) (rest : List UInt8) (hd n : Nat) (hn : n ≤ rest.length) (hf : hd + n ≤ 64) :
    Blk (w.setCells g (10 + hd) ((B rest).take n)) t g (wk st size held (into blk rest hd n) last ws) := by
  have e : ∀ x, x.length = n → wk st size held (blk.take hd ++ x ++ blk.drop (hd + n)) last ws = (U st ++ [.int .u64 size, .int .i64 held] ++ B (blk.take hd)) ++ B x ++ (B (blk.drop (hd + n)) ++ (B last ++ U ws)) := by
    intro x _
    simp [wk, B_append]
  have eb : blk = blk.take hd ++ (blk.drop hd).take n ++ blk.drop (hd + n) := by
    rw [List.append_assoc, ← List.drop_drop, List.take_append_drop, List.take_append_drop]
  have hl1 : ((blk.drop hd).take n).length = n := by rw [List.length_take, List.length_drop]; omega
  have hl2 : (rest.take n).length = n := by rw [List.length_take]; omega
  have h' : Blk w t g (wk st size held (blk.take hd ++ (blk.drop hd).take n ++ blk.drop (hd + n)) last ws) := by rw [← eb]; exact h
  rw [e _ hl1] at h'
  unfold into
  rw [e _ hl2]
  have et : (B rest).take n = B (rest.take n) := by simp [B, List.map_take]
  rw [et]
  exact Blk.setCells _ _ _ _ h' (by rw [B_length, B_length, hl1, hl2]) (by simp only [List.length_append, U_length, B_length, List.length_take, List.length_cons, List.length_nil, hs]; omega)
end

/-- Block g is a sum on its way: m is what was added. -/
def Wk (w : World) (t : TypeId) (g : Nat) (sz : Int) (m : List UInt8) : Prop :=
  ∃ blk last : List UInt8, blk.length = 64 ∧ last.length = 64 ∧ blk.take (m.length % 64) = m.drop (64 * (m.length / 64)) ∧
    Blk w t g (wk (runS m (m.length / 64)).l sz ((m.length % 64 : Nat) : Int) blk last (spreadS last))

theorem Wk.kept {w w' : World} {t : TypeId} {g : Nat} {sz : Int} {m : List UInt8} (h : Wk w t g sz m) (hb : w'.heap[g]? = w.heap[g]?) : Wk w' t g sz m := by
  obtain ⟨b, l, h1, h2, h3, h4⟩ := h
  exact ⟨b, l, h1, h2, h3, h4.kept hb⟩
theorem Wk.lt {w : World} {t : TypeId} {g : Nat} {sz : Int} {m : List UInt8} (h : Wk w t g sz m) : g < w.heap.size := by
  obtain ⟨b, l, h1, h2, h3, h4⟩ := h
  exact h4.lt
theorem Wk.later {w w' : World} {t : TypeId} {g : Nat} {sz : Int} {m : List UInt8} (h : Wk w t g sz m) (hb : Below w.heap.size w w') : Wk w' t g sz m := h.kept (hb.block g h.lt)
theorem Wk.setSize {w : World} {t : TypeId} {g : Nat} {sz : Int} {m : List UInt8} (h : Wk w t g sz m) (z : Int) : Wk (w.setCell ⟨g, 8, none⟩ (.int .u64 z)) t g z m := by
  obtain ⟨b, l, h1, h2, h3, h4⟩ := h
  exact ⟨b, l, h1, h2, h3, wk_setSize h4 (S8.len _) z⟩
theorem Wk.size {w : World} {t : TypeId} {g : Nat} {sz : Int} {m : List UInt8} (h : Wk w t g sz m) : w.cell? ⟨g, 8, none⟩ = some (.int .u64 sz) := by
  obtain ⟨b, l, h1, h2, h3, h4⟩ := h
  exact wk_size h4 (S8.len _)
theorem Wk.held {w : World} {t : TypeId} {g : Nat} {sz : Int} {m : List UInt8} (h : Wk w t g sz m) : w.cell? ⟨g, 9, none⟩ = some (.int .i64 ((m.length % 64 : Nat) : Int)) := by
  obtain ⟨b, l, h1, h2, h3, h4⟩ := h
  exact wk_held h4 (S8.len _)
theorem Wk.frozen {w : World} {t : TypeId} {g : Nat} {sz : Int} {m : List UInt8} (h : Wk w t g sz m) (j : Nat) : w.frozen? ⟨g, j, none⟩ = false := by
  obtain ⟨b, l, h1, h2, h3, h4⟩ := h
  exact h4.frozen j

/-- How long a slice is. -/
def lenV : Value → Nat
  | .slice _ n _ => n
  | _ => 0

/-- The slice does not lie in block g. -/
def Off (ao : Option Addr) (g : Nat) : Prop := ∀ ad, ao = some ad → ad.block ≠ g

theorem Addr.add_block (a : Addr) (j : Nat) : (a.add j).block = a.block := by unfold Addr.add; split <;> rfl

theorem Reads.offA {w w' : World} {ao : Option Addr} {g n cap : Nat} {xs : List Value} (h : Reads w (.slice ao n cap) xs) (ho : xs ≠ [] → Off ao g) (hg : w.grownBy w' (some g)) : Reads w' (.slice ao n cap) xs := by
  obtain ⟨ao', c, e, hc, hn, hcell⟩ := h
  cases e
  refine ⟨ao, cap, rfl, hc, hn, fun ad he j u hj => ?_⟩
  have h1 := hcell ad he j u hj
  have hb := World.block_lt_of_cell? w _ h1
  rw [Addr.add_block] at hb
  have hbk : w'.heap[ad.block]? = w.heap[ad.block]? := hg.block _ hb (by intro e; exact ho (by intro e0; rw [e0] at hj; simp at hj) ad he (by injection e))
  have e := World.cell?_of_block (w := w) (w' := w') (a := ad.add j) (by rw [Addr.add_block]; exact hbk)
  rw [e, h1]

theorem Reads.dropped {w : World} {ao : Option Addr} {len cap : Nat} {b : List UInt8} (h : Reads w (.slice ao len cap) (B b)) (n : Nat) (hn : n ≤ b.length) : Reads w (.slice (ao.map fun x => x.add n) (len - n) (cap - n)) (B (b.drop n)) := by
  obtain ⟨ao', c, e, hc, hnone, hcell⟩ := h
  injection e with e1 e2 e3
  subst e1
  subst e2
  subst e3
  rw [B_length] at hc ⊢
  refine ⟨ao.map fun x => x.add n, cap - n, by rw [B_length, List.length_drop], by rw [B_length, List.length_drop]; omega, ?_, ?_⟩
  · intro h
    have : ao = none := by simpa using h
    have := hnone this
    omega
  · intro ad he j u hj
    cases ao with
    | none => simp at he
    | some x =>
      simp only [Option.map_some, Option.some.injEq] at he
      subst he
      rw [Addr.add_add]
      refine hcell x rfl (n + j) u ?_
      rw [B_get] at hj ⊢
      rw [List.getElem?_drop] at hj
      exact hj
theorem Off.mapped {ao : Option Addr} {g : Nat} (h : Off ao g) (n : Nat) : Off (ao.map fun x => x.add n) g := by
  intro ad he
  cases ao with
  | none => simp at he
  | some x =>
    simp only [Option.map_some, Option.some.injEq] at he
    subst he
    rw [Addr.add_block]
    exact h x rfl
theorem Tryd.size1 : (Tryd.prog.info? 5).map (·.size) = some 1 := by kernel_rfl

set_option maxRecDepth 100000 in
set_option maxHeartbeats 4000000 in
theorem add_any (g : Nat) (h2 : 2 ≤ g) (sz : Int) (m b : List UInt8) (ao : Option Addr) (cap : Nat) (w : World) (hW : Wk w 115 g sz m) (ht : Tabs w)
    (hr : Reads w (.slice ao b.length cap) (B b)) (hoff : B b ≠ [] → Off ao g) (hb : cap ≤ maxLen) :
    Calls Tryd.prog 73 #[.pointer (some ⟨g, 0, none⟩), .slice ao b.length cap] w fun e w' => e = .returned (.tuple #[]) ∧ Wk w' 115 g (IntKind.u64.wrap (sz + b.length)) (m ++ b) ∧ w.grownBy w' (some g) := by
  have hbc : b.length ≤ cap := by obtain ⟨_, c, e, hc, _⟩ := hr; injection e with e1 e2 e3; subst e3; rw [B_length] at hc; exact hc
  unfold maxLen at hb
  obtain ⟨z, hz⟩ : ∃ z, IntKind.u64.wrap (sz + b.length) = z := ⟨_, rfl⟩
  rw [hz]
  have cs := hW.size
  have fs := hW.frozen 8
  have HT := hid ht
  have HW := hid hW
  have HR := hid hr
  have HO := hid hoff
  have HBC := hid hbc
  have HB := hid hb
  clear ht hW hr hoff
  go_enter Tryd.func73, Tryd.ntmps73
  refine wp_scope_at 0 (fun a' w' => ∃ (m1 rest : List UInt8) (ao : Option Addr) (len cap : Nat), a' = ⟨#[.pointer (some ⟨g, 0, none⟩), .slice ao len cap, undef, undef, a'.tmps.getD 4 undef, a'.tmps.getD 5 undef, a'.tmps.getD 6 undef, a'.tmps.getD 7 undef, a'.tmps.getD 8 undef, a'.tmps.getD 9 undef, a'.tmps.getD 10 undef, a'.tmps.getD 11 undef, a'.tmps.getD 12 undef, a'.tmps.getD 13 undef, a'.tmps.getD 14 undef, a'.tmps.getD 15 undef, a'.tmps.getD 16 undef, a'.tmps.getD 17 undef, a'.tmps.getD 18 undef, a'.tmps.getD 19 undef, a'.tmps.getD 20 undef, a'.tmps.getD 21 undef, a'.tmps.getD 22 undef, a'.tmps.getD 23 undef, a'.tmps.getD 24 undef, a'.tmps.getD 25 undef, a'.tmps.getD 26 undef, a'.tmps.getD 27 undef, a'.tmps.getD 28 undef, a'.tmps.getD 29 undef, a'.tmps.getD 30 undef, a'.tmps.getD 31 undef, a'.tmps.getD 32 undef, a'.tmps.getD 33 undef, a'.tmps.getD 34 undef, a'.tmps.getD 35 undef, a'.tmps.getD 36 undef, a'.tmps.getD 37 undef, a'.tmps.getD 38 undef, a'.tmps.getD 39 undef, a'.tmps.getD 40 undef, a'.tmps.getD 41 undef, a'.tmps.getD 42 undef, a'.tmps.getD 43 undef, a'.tmps.getD 44 undef, a'.tmps.getD 45 undef], []⟩ ∧ rest.length = len ∧ m1 ++ rest = m ++ b ∧ Reads w' (.slice ao len cap) (B rest) ∧ (B rest ≠ [] → Off ao g) ∧ cap ≤ 9223372036854775807 ∧ Wk w' 115 g z m1 ∧ w.grownBy w' (some g))
    (fun a' _ => lenV (a'.tmps.getD 1 undef)) rfl ?pass ?first
  case first =>
    intro hy
    have HY := hid hy
    clear hy
    go_wp2_with fail
    rename_i hK
    have hg1 := grown_setCell (World.grownBy.refl w (some g)) g 8 (.int .u64 z) (.inl rfl)
    exact wp_label (hK _ _ (HY.out _ _ ⟨m, b, ao, b.length, cap, rfl, rfl, rfl, HR.out.offA HO.out hg1, HO.out, by have := HB.out; omega, HW.out.setSize z, hg1⟩))
  case pass =>
    rintro a' w' ⟨m1, rest, ao, len, cap, ha, hlen, hm, hr, hoff, hcap, hW, hg⟩
    obtain ⟨f, ha2⟩ : ∃ f : Nat → Value, a' = ⟨#[.pointer (some ⟨g, 0, none⟩), .slice ao len cap, undef, undef, f 4, f 5, f 6, f 7, f 8, f 9, f 10, f 11, f 12, f 13, f 14, f 15, f 16, f 17, f 18, f 19, f 20, f 21, f 22, f 23, f 24, f 25, f 26, f 27, f 28, f 29, f 30, f 31, f 32, f 33, f 34, f 35, f 36, f 37, f 38, f 39, f 40, f 41, f 42, f 43, f 44, f 45], []⟩ := ⟨fun j => a'.tmps.getD j undef, ha⟩
    clear ha
    subst ha2
    subst hlen
    have hbc : rest.length ≤ cap := by obtain ⟨_, c, e, hc, _⟩ := hr; injection e with e1 e2 e3; subst e3; rw [B_length] at hc; exact hc
    have HW := hid hW
    have hT' := hid (HT.out.grown hg h2)
    obtain ⟨blk, last, hb64, hl64, hp, hB⟩ := hW
    obtain ⟨held, hheld⟩ : ∃ held, m1.length % 64 = held := ⟨_, rfl⟩
    have hh64 : held < 64 := by omega
    have hne64 : ¬ 64 = held := by omega
    have hh0 : (0 : Int) ≤ (held : Int) := by omega
    have hh1 : (held : Int) ≤ 64 := by omega
    obtain ⟨n, hn⟩ : ∃ n, n = Nat.min rest.length (64 - held) := ⟨_, rfl⟩
    have hn1 : n ≤ rest.length := by rw [hn]; exact Nat.min_le_left _ _
    have hn2 : n ≤ 64 - held := by rw [hn]; exact Nat.min_le_right _ _
    have hn3 : n = rest.length ∨ n = 64 - held := by rw [hn]; simp only [Nat.min_def]; split <;> omega
    have hh := HW.out.held
    rw [hheld] at hh
    have HN := hid hn
    have HHd := hid hheld
    have HR' := hid hr
    have HO' := hid hoff
    have HG := hid hg
    have HM := hid hm
    have HB' := hid hB
    have HP := hid hp
    have hb9 := hid (show (w'.drew.setCells g (10 + held) ((B rest).take n)).cell? ⟨g, 9, none⟩ = some (.int .i64 (held : Nat)) by
      rw [World.cell?_setCells_out g _ _ _ _ (fun _ _ => Or.inl (by show 9 < 10 + held; omega))]; exact hh)
    clear hn hheld hr hoff hg hm hB hp
    go_wp2_with fail
    refine wp_region_held_drew (S := fun w' => w'.cell? ⟨g, 9, none⟩ = some (.int .i64 (held : Nat))) (by kernel_rfl) (hh) (fun hHeld => ?_)
    refine wpAnyH_take (i := 0) (v := .pointer (some ⟨g, 0, none⟩)) rfl (by kernel_rfl) (by kernel_rfl) (by kernel_rfl) (fun _ _ _ h => h) (Or.inl ⟨by rfl, by intro w hSw; go_simp⟩) hHeld ?_
    try simp only [Act.put, List.setIfInBounds_toArray, List.set_cons_zero, List.set_cons_succ, List.getElem_toArray, List.getElem_cons_zero, List.getElem_cons_succ]
    refine wpAnyH_take (i := 1) (v := .pointer (some ⟨g, 0, none⟩)) rfl (by kernel_rfl) (by kernel_rfl) (by kernel_rfl) (fun _ _ _ h => h) (Or.inl ⟨by rfl, by intro w hSw; go_simp⟩) hHeld ?_
    try simp only [Act.put, List.setIfInBounds_toArray, List.set_cons_zero, List.set_cons_succ, List.getElem_toArray, List.getElem_cons_zero, List.getElem_cons_succ]
    refine wpAnyH_take (i := 2) (v := .pointer (some ⟨g, 10, none⟩)) rfl (by kernel_rfl) (by kernel_rfl) (by kernel_rfl) (fun _ _ _ h => h) (Or.inl ⟨by rfl, by intro w hSw; go_simp⟩) hHeld ?_
    try simp only [Act.put, List.setIfInBounds_toArray, List.set_cons_zero, List.set_cons_succ, List.getElem_toArray, List.getElem_cons_zero, List.getElem_cons_succ]
    refine wpAnyH_take (i := 3) (v := .pointer (some ⟨g, 0, none⟩)) rfl (by kernel_rfl) (by kernel_rfl) (by kernel_rfl) (fun _ _ _ h => h) (Or.inl ⟨by rfl, by intro w hSw; go_simp⟩) hHeld ?_
    try simp only [Act.put, List.setIfInBounds_toArray, List.set_cons_zero, List.set_cons_succ, List.getElem_toArray, List.getElem_cons_zero, List.getElem_cons_succ]
    refine wpAnyH_take (i := 4) (v := .pointer (some ⟨g, 0, none⟩)) rfl (by kernel_rfl) (by kernel_rfl) (by kernel_rfl) (fun _ _ _ h => h) (Or.inl ⟨by rfl, by intro w hSw; go_simp⟩) hHeld ?_
    try simp only [Act.put, List.setIfInBounds_toArray, List.set_cons_zero, List.set_cons_succ, List.getElem_toArray, List.getElem_cons_zero, List.getElem_cons_succ]
    refine wpAnyH_take (i := 5) (v := .pointer (some ⟨g, 9, none⟩)) rfl (by kernel_rfl) (by kernel_rfl) (by kernel_rfl) (fun _ _ _ h => h) (Or.inl ⟨by rfl, by intro w hSw; go_simp⟩) hHeld ?_
    try simp only [Act.put, List.setIfInBounds_toArray, List.set_cons_zero, List.set_cons_succ, List.getElem_toArray, List.getElem_cons_zero, List.getElem_cons_succ]
    refine wpAnyH_take (i := 6) (v := .int .i64 (held : Nat)) rfl (by kernel_rfl) (by kernel_rfl) (by kernel_rfl) (fun _ _ _ h => h) (Or.inl ⟨by rfl, by intro w hSw; go_simp⟩) hHeld ?_
    try simp only [Act.put, List.setIfInBounds_toArray, List.set_cons_zero, List.set_cons_succ, List.getElem_toArray, List.getElem_cons_zero, List.getElem_cons_succ]
    refine wpAnyH_take (i := 7) (v := .slice (some ⟨g, 10 + held, none⟩) (64 - held) (64 - held)) rfl (by kernel_rfl) (by kernel_rfl) (by kernel_rfl) (fun _ _ _ h => h) (Or.inl ⟨by rfl, by intro w hSw; go_simp⟩) hHeld ?_
    try simp only [Act.put, List.setIfInBounds_toArray, List.set_cons_zero, List.set_cons_succ, List.getElem_toArray, List.getElem_cons_zero, List.getElem_cons_succ]
    refine wpAnyH_take (i := 8) (v := .slice ao rest.length cap) rfl (by kernel_rfl) (by kernel_rfl) (by kernel_rfl) (fun _ _ _ h => h) (Or.inl ⟨by rfl, by intro w hSw; go_simp⟩) hHeld ?_
    try simp only [Act.put, List.setIfInBounds_toArray, List.set_cons_zero, List.set_cons_succ, List.getElem_toArray, List.getElem_cons_zero, List.getElem_cons_succ]
    refine wpAnyH_ready (rs := [9]) (by kernel_rfl) (by simp) ?_
    refine AllReadyH.cons rfl (fun K hK => ?_) AllReadyH.nil
    refine Eq.mpr (if_pos (by rfl)) ?_
    refine wp_copy_list _ _ 22 22 rfl 5 Tryd.underlying22 Tryd.size1 g (10 + held) (64 - held) (64 - held) rfl _ rfl (B rest) HR'.out n (by rw [B_length]; exact HN.out) (HB'.out.there (by simp only [wk, List.length_append, U_length, B_length, hb64, hl64, spreadS_len, List.length_cons, List.length_nil]; show 10 + held + n ≤ 8 + _; omega)) (B_one rest) ?_
    refine hK.out _ _ hb9.out (fun hHeld => ?_)
    clear hK K
    try simp only [Act.put, List.setIfInBounds_toArray, List.set_cons_zero, List.set_cons_succ, List.getElem_toArray, List.getElem_cons_zero, List.getElem_cons_succ]
    refine wpAnyH_take (i := 10) (v := goInt n) rfl (by kernel_rfl) (by kernel_rfl) (by kernel_rfl) (fun _ _ _ h => h) (Or.inl ⟨by rfl, by intro w hSw; go_simp⟩) hHeld ?_
    try simp only [Act.put, List.setIfInBounds_toArray, List.set_cons_zero, List.set_cons_succ, List.getElem_toArray, List.getElem_cons_zero, List.getElem_cons_succ]
    refine wpAnyH_done (by kernel_rfl) ?_ _
    have HB1 := hid (show Blk (w'.drew.setCells g (10 + held) ((B rest).take n)) 115 g (wk (runS m1 (m1.length / 64)).l z ((m1.length % 64 : Nat) : Int) (into blk rest held n) last (spreadS last)) from wk_into (w := w'.drew) HB'.out (S8.len _) hb64 rest held n hn1 (by omega))
    have Hg1 := hid (grown_setCells (grown_drew HG.out) ((B rest).take n) (10 + held))
    have HR1 := hid (HR'.out.offA HO'.out (grown_setCells (grown_drew (World.grownBy.refl w' (some g))) ((B rest).take n) (10 + held)))
    have hh1' := hb9.out
    clear hHeld hb9 HW HB' HG HR' hh
    generalize w'.drew.setCells g (10 + held) ((B rest).take n) = W1 at *
    have fh := HB1.out.frozen 9
    have hcap0 : (rest.length : Int) ≤ (cap : Int) := by omega
    have hnn : (n : Int) ≤ (rest.length : Int) := by omega
    rcases Nat.lt_or_ge (held + n) 64 with hlt | hge
    · have hlt' : (held : Int) + (n : Int) < 64 := by omega
      have hnr : n = rest.length := by omega
      have HA := hid (show Wk (W1.setCell ⟨g, 9, none⟩ (.int .i64 ((held : Int) + (n : Int)))) 115 g z (m ++ b) ∧ w.grownBy (W1.setCell ⟨g, 9, none⟩ (.int .i64 ((held : Int) + (n : Int)))) (some g) by
        refine ⟨?_, grown_setCell Hg1.out g 9 _ (.inl rfl)⟩
        have hip := into_part m1 rest blk n hb64 HP.out hn1 (by rw [HHd.out]; exact hlt)
        rw [HHd.out] at hip
        obtain ⟨i1, i2, i3, i4⟩ := hip
        have e : m ++ b = m1 ++ rest.take n := by rw [← HM.out, hnr, List.take_length]
        rw [e]
        refine ⟨into blk rest held n, last, into_len rest blk n held hb64 hn1 (by omega), hl64, by rw [i1, i2]; exact i3, ?_⟩
        rw [i1, i2, i4]
        have := wk_setHeld HB1.out (S8.len _) ((held : Int) + (n : Int))
        rw [show (((held + n : Nat)) : Int) = (held : Int) + (n : Int) by omega]
        exact this)
      clear HB1 Hg1 HP
      subst hnr
      go_wp2_with fail
      all_goals
        simp only [Exit.jump]
        exact bodyPost_ret (results_none rfl _ _ _) rfl ⟨rfl, HA.out⟩
    · have hge' : ¬ (held : Int) + (n : Int) < 64 := by omega
      have hn64 : held + n = 64 := by omega
      have HE := hid (show Blk (W1.setCell ⟨g, 9, none⟩ (.int .i64 ((held : Int) + (n : Int)))) 115 g (wk (runS m1 (m1.length / 64)).l z ((held : Int) + (n : Int)) (into blk rest held n) last (spreadS last)) ∧ w.grownBy (W1.setCell ⟨g, 9, none⟩ (.int .i64 ((held : Int) + (n : Int)))) (some g) from
        ⟨wk_setHeld HB1.out (S8.len _) _, grown_setCell Hg1.out g 9 _ (.inl rfl)⟩)
      have HR2 := hid (HR1.out.offA HO'.out (grown_setCell (World.grownBy.refl W1 (some g)) g 9 (.int .i64 ((held : Int) + (n : Int))) (.inl rfl)))
      have hF := into_full m1 rest blk n hb64 HP.out hn1 (by rw [HHd.out]; exact hn64)
      rw [HHd.out] at hF
      have HF := hid hF
      clear hF
      have HIL := hid (into_len rest blk n held hb64 hn1 (by omega))
      have hlast := hid hl64
      clear HB1 Hg1 HP HR1
      rcases Nat.lt_or_ge n cap with hcl | hcl
      · have hcl' : (n : Int) < (cap : Int) := by omega
        go_wp2_with fail
        refine (stir_any g h2 _ _ _ (into blk rest held n) last HIL.out hlast.out _ HE.out.1 (HT.out.grown HE.out.2 h2)).mono ?_
        rintro e w2 ⟨rfl, hB2, hg2⟩
        have c9 := wk_held hB2 (S8.len _)
        have f9 := hB2.frozen 9
        have HJ := hid (show Wk (w2.setCell ⟨g, 9, none⟩ (.int .i64 0)) 115 g z (m1 ++ rest.take n) ∧ w.grownBy (w2.setCell ⟨g, 9, none⟩ (.int .i64 0)) (some g) ∧ Reads (w2.setCell ⟨g, 9, none⟩ (.int .i64 0)) (.slice ao rest.length cap) (B rest) by
          have hg3 := grown_setCell (grown_trans HE.out.2 hg2) g 9 (.int .i64 0) (.inl rfl)
          refine ⟨?_, hg3, HR2.out.offA HO'.out (grown_setCell hg2 g 9 (.int .i64 0) (.inl rfl))⟩
          obtain ⟨f1, f2, f3⟩ := HF.out
          refine ⟨into blk rest held n, into blk rest held n, HIL.out, HIL.out, ?_, ?_⟩
          · rw [f1, f2, List.take_zero, List.drop_of_length_le (by omega)]
          · rw [f1, f2, f3]
            exact wk_setHeld hB2 (S8.len _) 0)
        clear hB2 hg2 HE HR2 HF HIL
        go_wp2_with fail
        go_step3
        exact ⟨rfl, ⟨m1 ++ rest.take n, rest.drop n, _, _, _, rfl, by rw [List.length_drop], by rw [List.append_assoc, List.take_append_drop]; exact HM.out, HJ.out.2.2.dropped n hn1, fun h => (HO'.out (fun e => h (by rw [show B (rest.drop n) = (B rest).drop n by simp [B, List.map_drop], e]; simp))).mapped n, by omega, HJ.out.1, HJ.out.2.1⟩, by simp [lenV]; omega⟩
      · have hce : n = cap := by omega
        have hnl := hid (show n = rest.length by omega)
        subst hce
        go_wp2_with fail
        refine (stir_any g h2 _ _ _ (into blk rest held n) last HIL.out hlast.out _ HE.out.1 (HT.out.grown HE.out.2 h2)).mono ?_
        rintro e w2 ⟨rfl, hB2, hg2⟩
        have c9 := wk_held hB2 (S8.len _)
        have f9 := hB2.frozen 9
        have HJ := hid (show Wk (w2.setCell ⟨g, 9, none⟩ (.int .i64 0)) 115 g z (m1 ++ rest.take n) ∧ w.grownBy (w2.setCell ⟨g, 9, none⟩ (.int .i64 0)) (some g) ∧ Reads (w2.setCell ⟨g, 9, none⟩ (.int .i64 0)) (.slice ao rest.length n) (B rest) by
          have hg3 := grown_setCell (grown_trans HE.out.2 hg2) g 9 (.int .i64 0) (.inl rfl)
          refine ⟨?_, hg3, HR2.out.offA HO'.out (grown_setCell hg2 g 9 (.int .i64 0) (.inl rfl))⟩
          obtain ⟨f1, f2, f3⟩ := HF.out
          refine ⟨into blk rest held n, into blk rest held n, HIL.out, HIL.out, ?_, ?_⟩
          · rw [f1, f2, List.take_zero, List.drop_of_length_le (by omega)]
          · rw [f1, f2, f3]
            exact wk_setHeld hB2 (S8.len _) 0)
        clear hB2 hg2 HE HR2 HF HIL
        go_wp2_with fail
        go_step3
        exact ⟨rfl, ⟨m1 ++ rest.take n, rest.drop n, _, _, _, rfl, by rw [List.length_drop]; have := hnl.out; omega, by rw [List.append_assoc, List.take_append_drop]; exact HM.out, by rw [List.drop_of_length_le (by have := hnl.out; omega)]; exact ⟨ao, 0, rfl, Nat.le_refl _, fun _ => rfl, fun _ _ _ _ hj => by simp [B] at hj⟩, fun h => absurd (by rw [List.drop_of_length_le (by have := hnl.out; omega)]; rfl) h, by omega, HJ.out.1, HJ.out.2.1⟩, by simp [lenV]; omega⟩
end Go.Proofs.YtinifnpajkldbaaDoor
