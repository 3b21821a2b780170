/- The contracts of package people's ahead, isUser and place (chapter 12). -/
import Derived.Test.YtjedajfemhpogaaAdrEq
import Derived.Test.YtjedajfemhpogaaPpS
import Derived.Test.YtjedajfemhpogaaJump
import Derived.Deep.RegionHeld3
import Derived.Deep.DeepCutAuto
namespace Go.Proofs.Ytjedajfemhpogaa
open Go.RowKit
set_option linter.unusedSimpArgs false
set_option linter.unusedVariables false

set_option maxHeartbeats 1000000 in
theorem ppAhead_any (a b : Ad) (w : World) : Calls Try.prog 14 #[.agg #[.int .i64 a.1, .int .i64 a.2], .agg #[.int .i64 b.1, .int .i64 b.2]] w fun e w' => e = .returned (.bool (adLt a b)) ∧ Below w.heap.size w w' := by
  have HB := hid (show ∀ o1 o2, Below w.heap.size w ((w.alloc o1).alloc o2) from fun o1 o2 => ((Below.refl _ _).alloc (Nat.le_refl _) o1).alloc (by simp) o2)
  obtain ⟨x, y⟩ := a
  obtain ⟨u, v⟩ := b
  by_cases h1 : x < u
  · have HR := hid (show adLt (x, y) (u, v) = true from adLt_iff.2 (.inl h1))
    go_enter Try.func14, Try.ntmps14
    go_wp2
    go_ret
    exact ⟨by rw [HR.out]; rfl, HB.out _ _⟩
  by_cases h2 : x = u
  · subst h2
    by_cases h3 : y < v
    · have HR := hid (show adLt (x, y) (x, v) = true from adLt_iff.2 (.inr ⟨rfl, h3⟩))
      go_enter Try.func14, Try.ntmps14
      go_wp2
      go_ret
      exact ⟨by rw [HR.out]; rfl, HB.out _ _⟩
    · have HR := hid (show adLt (x, y) (x, v) = false by
        cases hc : adLt (x, y) (x, v) with
        | false => rfl
        | true =>
          rcases adLt_iff.1 hc with h | h
          · exact absurd h h1
          · exact absurd h.2 h3)
      go_enter Try.func14, Try.ntmps14
      go_wp2
      go_ret
      exact ⟨by rw [HR.out]; rfl, HB.out _ _⟩
  · have HR := hid (show adLt (x, y) (u, v) = false by
      cases hc : adLt (x, y) (u, v) with
      | false => rfl
      | true =>
        rcases adLt_iff.1 hc with h | h
        · exact absurd h h1
        · exact absurd h.1 h2)
    have h2' : (x == u) = false := by simpa using h2
    go_enter Try.func14, Try.ntmps14
    go_wp2
    go_ret
    exact ⟨by rw [HR.out]; rfl, HB.out _ _⟩

set_option maxHeartbeats 1000000 in
theorem ppIsUser_any (a : Ad) (w : World) : Calls Try.prog 11 #[.agg #[.int .i64 a.1, .int .i64 a.2]] w fun e w' => e = .returned (.bool (userS a.1 a.2)) ∧ Below w.heap.size w w' := by
  have HB := hid (show ∀ o1, Below w.heap.size w (w.alloc o1) from fun o1 => (Below.refl _ _).alloc (Nat.le_refl _) o1)
  obtain ⟨x, y⟩ := a
  by_cases h1 : (0 : Int) ≤ x
  · by_cases h2 : x < 3
    · by_cases h3 : (0 : Int) ≤ y
      · by_cases h4 : y < 8
        · have HR := hid (show userS x y = true by rw [userS, upS_in h1 (by omega), upS_in h3 (by omega)]; rfl)
          go_enter Try.func11, Try.ntmps11
          go_wp2
          go_ret
          exact ⟨by rw [HR.out]; rfl, HB.out _⟩
        · have HR := hid (show userS x y = false by rw [userS, upS_out (n := y) (by omega), Bool.and_false])
          go_enter Try.func11, Try.ntmps11
          go_wp2
          go_ret
          exact ⟨by rw [HR.out]; rfl, HB.out _⟩
      · have HR := hid (show userS x y = false by rw [userS, upS_neg (n := y) (by omega), Bool.and_false])
        go_enter Try.func11, Try.ntmps11
        go_wp2
        go_ret
        exact ⟨by rw [HR.out]; rfl, HB.out _⟩
    · have HR := hid (show userS x y = false by rw [userS, upS_out (n := x) (by omega), Bool.false_and])
      go_enter Try.func11, Try.ntmps11
      go_wp2
      go_ret
      exact ⟨by rw [HR.out]; rfl, HB.out _⟩
  · have HR := hid (show userS x y = false by rw [userS, upS_neg (n := x) (by omega), Bool.false_and])
    go_enter Try.func11, Try.ntmps11
    go_wp2
    go_ret
    exact ⟨by rw [HR.out]; rfl, HB.out _⟩

set_option maxRecDepth 100000 in
set_option maxHeartbeats 4000000 in
theorem ppPlace_any (va : Value) (l : List Ad) (a : Ad) (w : World) (ha : RA w va l) (hla : l.length ≤ 1048576) :
    Calls Try.prog 10 #[va, .agg #[.int .i64 a.1, .int .i64 a.2]] w fun e w' => e = .returned (.tuple #[.int .i64 (ppN l a), .bool (decide (l[ppN l a]? = some a))]) ∧ Below w.heap.size w w' := by
  obtain ⟨ao, cap, rfl⟩ := ha.form
  obtain ⟨n, hn⟩ : ∃ n, l.length = n := ⟨_, rfl⟩
  have HN := hid hn
  rw [hn] at ha hla ⊢
  have HA := hid ha
  obtain ⟨L, hL⟩ : ∃ L, w.heap.size = L := ⟨_, rfl⟩
  have HL := hid hL
  clear ha hn
  go_enter Try.func10, Try.ntmps10
  go_wp2_with (show wpList _ _ _ (⟨some 3, Op.box _ _, _, _, _, _⟩ :: _) _ _; go_must (refine wpList_box_blk rfl 29 _ rfl [.int .i64 a.1, .int .i64 a.2] rfl L hL ?_); intro w1 hB1 hb1 hs1; have HB1 := hid hB1; have Hb1 := hid hb1; clear hB1 hb1)
  refine wp_scope_at 0 (fun a' w' => ∃ (j : Nat), a' = ⟨#[.slice ao n cap, a'.tmps.getD 1 undef, a'.tmps.getD 2 undef, .pointer (some ⟨L, 0, none⟩), a'.tmps.getD 4 undef, a'.tmps.getD 5 undef, .int .i64 (j : Int), a'.tmps.getD 7 undef, a'.tmps.getD 8 undef, a'.tmps.getD 9 undef, a'.tmps.getD 10 undef, a'.tmps.getD 11 undef, a'.tmps.getD 12 undef, a'.tmps.getD 13 undef, a'.tmps.getD 14 undef, a'.tmps.getD 15 undef, a'.tmps.getD 16 undef, a'.tmps.getD 17 undef, a'.tmps.getD 18 undef, a'.tmps.getD 19 undef, a'.tmps.getD 20 undef, a'.tmps.getD 21 undef, a'.tmps.getD 22 undef, a'.tmps.getD 23 undef, a'.tmps.getD 24 undef, a'.tmps.getD 25 undef, a'.tmps.getD 26 undef, a'.tmps.getD 27 undef, a'.tmps.getD 28 undef, a'.tmps.getD 29 undef, a'.tmps.getD 30 undef, a'.tmps.getD 31 undef, a'.tmps.getD 32 undef, a'.tmps.getD 33 undef], []⟩ ∧ j ≤ ppN l a ∧ Blk w' 29 L [.int .i64 a.1, .int .i64 a.2] ∧ Below L w w')
    (fun a' _ => n - (intOf (a'.tmps.getD 6 undef)).toNat) rfl ?pass ?first
  case first =>
    intro hy
    have HY := hid hy
    clear hy
    go_wp2_with fail
    rename_i hK
    exact wp_label (hK _ _ (HY.out _ _ ⟨0, rfl, Nat.zero_le _, HB1.out, Hb1.out⟩))
  case pass =>
    rintro a' wr ⟨j, ha, hp, hB, hb⟩
    obtain ⟨f, ha2⟩ : ∃ f : Nat → Value, a' = ⟨#[.slice ao n cap, f 1, f 2, .pointer (some ⟨L, 0, none⟩), f 4, f 5, .int .i64 (j : Int), f 7, f 8, f 9, f 10, f 11, f 12, f 13, f 14, f 15, f 16, f 17, f 18, f 19, f 20, f 21, f 22, f 23, f 24, f 25, f 26, f 27, f 28, f 29, f 30, f 31, f 32, f 33], []⟩ := ⟨fun j => a'.tmps.getD j undef, ha⟩
    clear ha
    subst ha2
    have HBX := hid hB
    have Hb := hid hb
    have HP := hid hp
    have hjn : j ≤ n := by have := ppN_le l a; have := HN.out; omega
    clear hB hb hp HB1 Hb1
    by_cases hlt : j < n
    · have hlt' : (j : Int) < (n : Int) := by omega
      obtain ⟨x, hx⟩ : ∃ c, l[j]? = some c := ⟨_, List.getElem?_eq_getElem (by have := HN.out; omega)⟩
      have HAT := hid (ppN_at hx HP.out)
      have HX := hid hx
      obtain ⟨g, off, cap', e, hcapa, hra, hga⟩ := HA.out.place (by have := HN.out; omega)
      injection e with e1 e2 e3
      subst e1 e3
      have HRX := hid (show ∀ w', Below L w w' → w'.rangeAt g (off + j * 2) [.int .i64 x.1, .int .i64 x.2] from fun w' hb i u hu => by
        have h1 := hra _ _ (A2_get l j x hx i u hu)
        rw [← Nat.add_assoc] at h1
        exact cell_later (by rw [HL.out]; exact hb) h1)
      clear hra hx e2 hcapa hga
      by_cases hb : adLt x a = true
      · have HLT := hid hb
        have hnx := HAT.out.1 hb
        clear hb
        go_wp2_with fail
        refine wp_region_held_drew (S := fun w' => Blk w' 29 L [.int .i64 a.1, .int .i64 a.2] ∧ Below L w w') (by kernel_rfl) (⟨HBX.out.kept rfl, Hb.out.drew⟩) (fun hHeld => ?_)
        generalize wr.drew = wd at *
        refine wpAnyH_take (i := 0) (v := .int .i64 (j : Int)) rfl (by kernel_rfl) (by kernel_rfl) (by kernel_rfl) (fun _ _ _ h => h) (Or.inl ⟨by rfl, by intro w hSw; go_simp⟩) hHeld ?_
        try simp only [Act.put, List.setIfInBounds_toArray, List.set_cons_zero, List.set_cons_succ, List.getElem_toArray, List.getElem_cons_zero, List.getElem_cons_succ]
        refine wpAnyH_take (i := 1) (v := .slice (some ⟨g, off, none⟩) n cap) rfl (by kernel_rfl) (by kernel_rfl) (by kernel_rfl) (fun _ _ _ h => h) (Or.inl ⟨by rfl, by intro w hSw; go_simp⟩) hHeld ?_
        try simp only [Act.put, List.setIfInBounds_toArray, List.set_cons_zero, List.set_cons_succ, List.getElem_toArray, List.getElem_cons_zero, List.getElem_cons_succ]
        refine wpAnyH_take (i := 2) (v := .int .i64 (n : Int)) rfl (by kernel_rfl) (by kernel_rfl) (by kernel_rfl) (fun _ _ _ h => h) (Or.inl ⟨by rfl, by intro w hSw; go_simp⟩) hHeld ?_
        try simp only [Act.put, List.setIfInBounds_toArray, List.set_cons_zero, List.set_cons_succ, List.getElem_toArray, List.getElem_cons_zero, List.getElem_cons_succ]
        refine wpAnyH_take (i := 3) (v := .bool true) rfl (by kernel_rfl) (by kernel_rfl) (by kernel_rfl) (fun _ _ _ h => h) (Or.inl ⟨by rfl, by intro w hSw; go_simp⟩) hHeld ?_
        try simp only [Act.put, List.setIfInBounds_toArray, List.set_cons_zero, List.set_cons_succ, List.getElem_toArray, List.getElem_cons_zero, List.getElem_cons_succ]
        refine wpAnyH_take (i := 4) (v := .bool true) rfl (by kernel_rfl) (by kernel_rfl) (by kernel_rfl) (fun _ _ _ h => h) (Or.inl ⟨by rfl, by intro w hSw; go_simp⟩) hHeld ?_
        try simp only [Act.put, List.setIfInBounds_toArray, List.set_cons_zero, List.set_cons_succ, List.getElem_toArray, List.getElem_cons_zero, List.getElem_cons_succ]
        refine wpAnyH_take (i := 5) (v := .slice (some ⟨g, off, none⟩) n cap) rfl (by kernel_rfl) (by kernel_rfl) (by kernel_rfl) (fun _ _ _ h => h) (Or.inl ⟨by rfl, by intro w hSw; go_simp⟩) hHeld ?_
        try simp only [Act.put, List.setIfInBounds_toArray, List.set_cons_zero, List.set_cons_succ, List.getElem_toArray, List.getElem_cons_zero, List.getElem_cons_succ]
        refine wpAnyH_take (i := 6) (v := .int .i64 (j : Int)) rfl (by kernel_rfl) (by kernel_rfl) (by kernel_rfl) (fun _ _ _ h => h) (Or.inl ⟨by rfl, by intro w hSw; go_simp⟩) hHeld ?_
        try simp only [Act.put, List.setIfInBounds_toArray, List.set_cons_zero, List.set_cons_succ, List.getElem_toArray, List.getElem_cons_zero, List.getElem_cons_succ]
        refine wpAnyH_take (i := 7) (v := .pointer (some ⟨g, off + j * 2, none⟩)) rfl (by kernel_rfl) (by kernel_rfl) (by kernel_rfl) (fun _ _ _ h => h) (Or.inl ⟨by rfl, by intro w hSw; go_simp⟩) hHeld ?_
        try simp only [Act.put, List.setIfInBounds_toArray, List.set_cons_zero, List.set_cons_succ, List.getElem_toArray, List.getElem_cons_zero, List.getElem_cons_succ]
        refine wpAnyH_take (i := 8) (v := _) rfl (by kernel_rfl) (by kernel_rfl) (by kernel_rfl) (fun _ _ _ h => h) (yieldsIf_load_mid (by rfl) _ _ rfl _ _ rfl [.int .i64 x.1, .int .i64 x.2] _ (fun w hSw => (HRX.out _ hSw.2)) Try.underlying29 rfl (by kernel_rfl)) hHeld ?_
        try simp only [Act.put, List.setIfInBounds_toArray, List.set_cons_zero, List.set_cons_succ, List.getElem_toArray, List.getElem_cons_zero, List.getElem_cons_succ]
        refine wpAnyH_take (i := 9) (v := _) rfl (by kernel_rfl) (by kernel_rfl) (by kernel_rfl) (fun _ _ _ h => h) (yieldsIf_load_mid (by rfl) _ _ rfl _ _ rfl [.int .i64 a.1, .int .i64 a.2] _ (fun w hSw => (hSw.1.range fun j v hv => by rw [Nat.zero_add]; exact hv)) Try.underlying29 rfl (by kernel_rfl)) hHeld ?_
        try simp only [Act.put, List.setIfInBounds_toArray, List.set_cons_zero, List.set_cons_succ, List.getElem_toArray, List.getElem_cons_zero, List.getElem_cons_succ]
        refine wpAnyH_ready (rs := [10]) (by kernel_rfl) (by simp) ?_
        refine AllReadyH.cons rfl (fun K hK => ?_) AllReadyH.nil
        go_simp
        refine (ppAhead_any x a _).mono ?_
        rintro _ w3 ⟨rfl, hb3⟩
        rw [HLT.out]
        refine hK.out _ _ (⟨hHeld.1.later hb3, hHeld.2.trans (hb3.mono (by have := hHeld.1.lt; omega))⟩) (fun hHeld => ?_)
        clear hK K
        try simp only [Act.put, List.setIfInBounds_toArray, List.set_cons_zero, List.set_cons_succ, List.getElem_toArray, List.getElem_cons_zero, List.getElem_cons_succ]
        clear hb3
        refine wpAnyH_take (i := 11) (v := .bool true) rfl (by kernel_rfl) (by kernel_rfl) (by kernel_rfl) (fun _ _ _ h => h) (Or.inl ⟨by rfl, by intro w hSw; go_simp⟩) hHeld ?_
        try simp only [Act.put, List.setIfInBounds_toArray, List.set_cons_zero, List.set_cons_succ, List.getElem_toArray, List.getElem_cons_zero, List.getElem_cons_succ]
        refine wpAnyH_done (by kernel_rfl) ?_ _
        go_wp2_with fail
        go_step3
        exact ⟨rfl, ⟨j + 1, rfl, by omega, hHeld.1, hHeld.2⟩, by simp [intOf]; omega⟩
      · have HLT := hid (show adLt x a = false by simpa using hb)
        have HPP := hid (show ppN l a = j by
          have h1 : ¬ j < ppN l a := fun h => hb (HAT.out.2 h)
          have := HP.out
          omega)
        clear hb
        go_wp2_with fail
        refine wp_region_held_drew (S := fun w' => Blk w' 29 L [.int .i64 a.1, .int .i64 a.2] ∧ Below L w w') (by kernel_rfl) (⟨HBX.out.kept rfl, Hb.out.drew⟩) (fun hHeld => ?_)
        generalize wr.drew = wd at *
        refine wpAnyH_take (i := 0) (v := .int .i64 (j : Int)) rfl (by kernel_rfl) (by kernel_rfl) (by kernel_rfl) (fun _ _ _ h => h) (Or.inl ⟨by rfl, by intro w hSw; go_simp⟩) hHeld ?_
        try simp only [Act.put, List.setIfInBounds_toArray, List.set_cons_zero, List.set_cons_succ, List.getElem_toArray, List.getElem_cons_zero, List.getElem_cons_succ]
        refine wpAnyH_take (i := 1) (v := .slice (some ⟨g, off, none⟩) n cap) rfl (by kernel_rfl) (by kernel_rfl) (by kernel_rfl) (fun _ _ _ h => h) (Or.inl ⟨by rfl, by intro w hSw; go_simp⟩) hHeld ?_
        try simp only [Act.put, List.setIfInBounds_toArray, List.set_cons_zero, List.set_cons_succ, List.getElem_toArray, List.getElem_cons_zero, List.getElem_cons_succ]
        refine wpAnyH_take (i := 2) (v := .int .i64 (n : Int)) rfl (by kernel_rfl) (by kernel_rfl) (by kernel_rfl) (fun _ _ _ h => h) (Or.inl ⟨by rfl, by intro w hSw; go_simp⟩) hHeld ?_
        try simp only [Act.put, List.setIfInBounds_toArray, List.set_cons_zero, List.set_cons_succ, List.getElem_toArray, List.getElem_cons_zero, List.getElem_cons_succ]
        refine wpAnyH_take (i := 3) (v := .bool true) rfl (by kernel_rfl) (by kernel_rfl) (by kernel_rfl) (fun _ _ _ h => h) (Or.inl ⟨by rfl, by intro w hSw; go_simp⟩) hHeld ?_
        try simp only [Act.put, List.setIfInBounds_toArray, List.set_cons_zero, List.set_cons_succ, List.getElem_toArray, List.getElem_cons_zero, List.getElem_cons_succ]
        refine wpAnyH_take (i := 4) (v := .bool true) rfl (by kernel_rfl) (by kernel_rfl) (by kernel_rfl) (fun _ _ _ h => h) (Or.inl ⟨by rfl, by intro w hSw; go_simp⟩) hHeld ?_
        try simp only [Act.put, List.setIfInBounds_toArray, List.set_cons_zero, List.set_cons_succ, List.getElem_toArray, List.getElem_cons_zero, List.getElem_cons_succ]
        refine wpAnyH_take (i := 5) (v := .slice (some ⟨g, off, none⟩) n cap) rfl (by kernel_rfl) (by kernel_rfl) (by kernel_rfl) (fun _ _ _ h => h) (Or.inl ⟨by rfl, by intro w hSw; go_simp⟩) hHeld ?_
        try simp only [Act.put, List.setIfInBounds_toArray, List.set_cons_zero, List.set_cons_succ, List.getElem_toArray, List.getElem_cons_zero, List.getElem_cons_succ]
        refine wpAnyH_take (i := 6) (v := .int .i64 (j : Int)) rfl (by kernel_rfl) (by kernel_rfl) (by kernel_rfl) (fun _ _ _ h => h) (Or.inl ⟨by rfl, by intro w hSw; go_simp⟩) hHeld ?_
        try simp only [Act.put, List.setIfInBounds_toArray, List.set_cons_zero, List.set_cons_succ, List.getElem_toArray, List.getElem_cons_zero, List.getElem_cons_succ]
        refine wpAnyH_take (i := 7) (v := .pointer (some ⟨g, off + j * 2, none⟩)) rfl (by kernel_rfl) (by kernel_rfl) (by kernel_rfl) (fun _ _ _ h => h) (Or.inl ⟨by rfl, by intro w hSw; go_simp⟩) hHeld ?_
        try simp only [Act.put, List.setIfInBounds_toArray, List.set_cons_zero, List.set_cons_succ, List.getElem_toArray, List.getElem_cons_zero, List.getElem_cons_succ]
        refine wpAnyH_take (i := 8) (v := _) rfl (by kernel_rfl) (by kernel_rfl) (by kernel_rfl) (fun _ _ _ h => h) (yieldsIf_load_mid (by rfl) _ _ rfl _ _ rfl [.int .i64 x.1, .int .i64 x.2] _ (fun w hSw => (HRX.out _ hSw.2)) Try.underlying29 rfl (by kernel_rfl)) hHeld ?_
        try simp only [Act.put, List.setIfInBounds_toArray, List.set_cons_zero, List.set_cons_succ, List.getElem_toArray, List.getElem_cons_zero, List.getElem_cons_succ]
        refine wpAnyH_take (i := 9) (v := _) rfl (by kernel_rfl) (by kernel_rfl) (by kernel_rfl) (fun _ _ _ h => h) (yieldsIf_load_mid (by rfl) _ _ rfl _ _ rfl [.int .i64 a.1, .int .i64 a.2] _ (fun w hSw => (hSw.1.range fun j v hv => by rw [Nat.zero_add]; exact hv)) Try.underlying29 rfl (by kernel_rfl)) hHeld ?_
        try simp only [Act.put, List.setIfInBounds_toArray, List.set_cons_zero, List.set_cons_succ, List.getElem_toArray, List.getElem_cons_zero, List.getElem_cons_succ]
        refine wpAnyH_ready (rs := [10]) (by kernel_rfl) (by simp) ?_
        refine AllReadyH.cons rfl (fun K hK => ?_) AllReadyH.nil
        go_simp
        refine (ppAhead_any x a _).mono ?_
        rintro _ w3 ⟨rfl, hb3⟩
        rw [HLT.out]
        refine hK.out _ _ (⟨hHeld.1.later hb3, hHeld.2.trans (hb3.mono (by have := hHeld.1.lt; omega))⟩) (fun hHeld => ?_)
        clear hK K
        try simp only [Act.put, List.setIfInBounds_toArray, List.set_cons_zero, List.set_cons_succ, List.getElem_toArray, List.getElem_cons_zero, List.getElem_cons_succ]
        clear hb3
        refine wpAnyH_take (i := 11) (v := .bool false) rfl (by kernel_rfl) (by kernel_rfl) (by kernel_rfl) (fun _ _ _ h => h) (Or.inl ⟨by rfl, by intro w hSw; go_simp⟩) hHeld ?_
        try simp only [Act.put, List.setIfInBounds_toArray, List.set_cons_zero, List.set_cons_succ, List.getElem_toArray, List.getElem_cons_zero, List.getElem_cons_succ]
        refine wpAnyH_done (by kernel_rfl) ?_ _
        have y0 := hHeld.1.cell (j := 0) rfl
        have y1 := hHeld.1.cell (j := 1) rfl
        have x0 : w3.cell? ⟨g, off + j * 2, none⟩ = some (.int .i64 x.1) := (HRX.out _ hHeld.2) 0 _ rfl
        have x1 : w3.cell? ⟨g, off + j * 2 + 1, none⟩ = some (.int .i64 x.2) := (HRX.out _ hHeld.2) 1 _ rfl
        have heql := fun wx => eql_a wx x a
        have HHE := hid hHeld
        clear hHeld
        by_cases hs : x = a
        · have HR := hid (show decide (l[ppN l a]? = some a) = true by rw [HPP.out, HX.out, hs]; simp)
          rw [hs, ad_eq] at heql
          rw [hs] at x0 x1
          go_wp2_with fail
          go_region
          all_goals
            go_wp2_with fail
            simp only [Exit.jump]
            go_ret2
            exact ⟨by rw [HR.out, HPP.out]; rfl, HL.out ▸ HHE.out.2.drew⟩
        · have HR := hid (show decide (l[ppN l a]? = some a) = false by
            rw [HPP.out, HX.out]
            exact decide_eq_false (fun h => hs (Option.some.inj h)))
          rw [ad_ne hs] at heql
          go_wp2_with fail
          go_region
          all_goals
            go_wp2_with fail
            simp only [Exit.jump]
            go_ret2
            exact ⟨by rw [HR.out, HPP.out]; rfl, HL.out ▸ HHE.out.2.drew⟩
    · have hj2 : j = n := by omega
      subst hj2
      have HR := hid (show decide (l[ppN l a]? = some a) = false by
        rw [List.getElem?_eq_none (by have := HN.out; have := HP.out; omega)]; rfl)
      have HPP := hid (show ppN l a = j by have := HP.out; have := ppN_le l a; have := HN.out; omega)
      go_wp2_with fail
      refine wp_region_held_drew (S := fun w' => Blk w' 29 L [.int .i64 a.1, .int .i64 a.2] ∧ Below L w w') (by kernel_rfl) (⟨HBX.out.kept rfl, Hb.out.drew⟩) (fun hHeld => ?_)
      generalize wr.drew = wd at *
      refine wpAnyH_take (i := 0) (v := .int .i64 (j : Int)) rfl (by kernel_rfl) (by kernel_rfl) (by kernel_rfl) (fun _ _ _ h => h) (Or.inl ⟨by rfl, by intro w hSw; go_simp⟩) hHeld ?_
      try simp only [Act.put, List.setIfInBounds_toArray, List.set_cons_zero, List.set_cons_succ, List.getElem_toArray, List.getElem_cons_zero, List.getElem_cons_succ]
      refine wpAnyH_take (i := 1) (v := .slice ao j cap) rfl (by kernel_rfl) (by kernel_rfl) (by kernel_rfl) (fun _ _ _ h => h) (Or.inl ⟨by rfl, by intro w hSw; go_simp⟩) hHeld ?_
      try simp only [Act.put, List.setIfInBounds_toArray, List.set_cons_zero, List.set_cons_succ, List.getElem_toArray, List.getElem_cons_zero, List.getElem_cons_succ]
      refine wpAnyH_take (i := 2) (v := .int .i64 (j : Int)) rfl (by kernel_rfl) (by kernel_rfl) (by kernel_rfl) (fun _ _ _ h => h) (Or.inl ⟨by rfl, by intro w hSw; go_simp⟩) hHeld ?_
      try simp only [Act.put, List.setIfInBounds_toArray, List.set_cons_zero, List.set_cons_succ, List.getElem_toArray, List.getElem_cons_zero, List.getElem_cons_succ]
      refine wpAnyH_take (i := 3) (v := .bool false) rfl (by kernel_rfl) (by kernel_rfl) (by kernel_rfl) (fun _ _ _ h => h) (Or.inl ⟨by rfl, by intro w hSw; go_simp⟩) hHeld ?_
      try simp only [Act.put, List.setIfInBounds_toArray, List.set_cons_zero, List.set_cons_succ, List.getElem_toArray, List.getElem_cons_zero, List.getElem_cons_succ]
      refine wpAnyH_take (i := 4) (v := .bool false) rfl (by kernel_rfl) (by kernel_rfl) (by kernel_rfl) (fun _ _ _ h => h) (Or.inl ⟨by rfl, by intro w hSw; go_simp⟩) hHeld ?_
      try simp only [Act.put, List.setIfInBounds_toArray, List.set_cons_zero, List.set_cons_succ, List.getElem_toArray, List.getElem_cons_zero, List.getElem_cons_succ]
      refine wpAnyH_take (i := 5) (v := undef) rfl (by kernel_rfl) (by kernel_rfl) (by kernel_rfl) (fun _ _ _ h => h) (Or.inr ⟨by rfl, rfl⟩) hHeld ?_
      try simp only [Act.put, List.setIfInBounds_toArray, List.set_cons_zero, List.set_cons_succ, List.getElem_toArray, List.getElem_cons_zero, List.getElem_cons_succ]
      refine wpAnyH_take (i := 6) (v := undef) rfl (by kernel_rfl) (by kernel_rfl) (by kernel_rfl) (fun _ _ _ h => h) (Or.inr ⟨by rfl, rfl⟩) hHeld ?_
      try simp only [Act.put, List.setIfInBounds_toArray, List.set_cons_zero, List.set_cons_succ, List.getElem_toArray, List.getElem_cons_zero, List.getElem_cons_succ]
      refine wpAnyH_take (i := 7) (v := undef) rfl (by kernel_rfl) (by kernel_rfl) (by kernel_rfl) (fun _ _ _ h => h) (Or.inr ⟨by rfl, rfl⟩) hHeld ?_
      try simp only [Act.put, List.setIfInBounds_toArray, List.set_cons_zero, List.set_cons_succ, List.getElem_toArray, List.getElem_cons_zero, List.getElem_cons_succ]
      refine wpAnyH_take (i := 8) (v := undef) rfl (by kernel_rfl) (by kernel_rfl) (by kernel_rfl) (fun _ _ _ h => h) (Or.inr ⟨by rfl, rfl⟩) hHeld ?_
      try simp only [Act.put, List.setIfInBounds_toArray, List.set_cons_zero, List.set_cons_succ, List.getElem_toArray, List.getElem_cons_zero, List.getElem_cons_succ]
      refine wpAnyH_take (i := 9) (v := undef) rfl (by kernel_rfl) (by kernel_rfl) (by kernel_rfl) (fun _ _ _ h => h) (Or.inr ⟨by rfl, rfl⟩) hHeld ?_
      try simp only [Act.put, List.setIfInBounds_toArray, List.set_cons_zero, List.set_cons_succ, List.getElem_toArray, List.getElem_cons_zero, List.getElem_cons_succ]
      refine wpAnyH_take (i := 10) (v := undef) rfl (by kernel_rfl) (by kernel_rfl) (by kernel_rfl) (fun _ _ _ h => h) (Or.inr ⟨by rfl, rfl⟩) hHeld ?_
      try simp only [Act.put, List.setIfInBounds_toArray, List.set_cons_zero, List.set_cons_succ, List.getElem_toArray, List.getElem_cons_zero, List.getElem_cons_succ]
      refine wpAnyH_take (i := 11) (v := .bool false) rfl (by kernel_rfl) (by kernel_rfl) (by kernel_rfl) (fun _ _ _ h => h) (Or.inl ⟨by rfl, by intro w hSw; go_simp⟩) hHeld ?_
      try simp only [Act.put, List.setIfInBounds_toArray, List.set_cons_zero, List.set_cons_succ, List.getElem_toArray, List.getElem_cons_zero, List.getElem_cons_succ]
      refine wpAnyH_done (by kernel_rfl) ?_ _
      go_wp2_with fail
      go_region
      all_goals
        go_wp2_with fail
        simp only [Exit.jump]
        go_ret2
        exact ⟨by rw [HR.out, HPP.out]; rfl, HL.out ▸ hHeld.2.drew⟩
end Go.Proofs.Ytjedajfemhpogaa
