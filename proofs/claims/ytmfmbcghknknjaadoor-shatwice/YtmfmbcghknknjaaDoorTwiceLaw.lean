/- The law ShaTwice: a sum does not hang on what was summed ahead, nor is what was handed in changed. -/
import Derived.Test.YtmfmbcghknknjaaDoorSumsLaw
import Derived.Test.YtmfmbcghknknjaaDoorHasW
namespace Go.Proofs.YtmfmbcghknknjaaDoor
open Go.RowKit
set_option linter.unusedSimpArgs false
set_option linter.unusedVariables false

def sumsB (ls : List (List UInt8)) : List Value := ls.flatMap fun x => B (shaS x)
theorem sumsB_at (n : Nat) : ∀ (ls : List (List UInt8)) (i j : Nat) (x : List UInt8) (u : Value), i < n → ls[i]? = some x → (B (shaS x))[j]? = some u → (sumsB (ls.take n))[i * 32 + j]? = some u := by
  have hl : ∀ x : List UInt8, (B (shaS x)).length = 32 := fun x => by rw [B_length, shaS_len]
  intro ls
  induction ls generalizing n with
  | nil => intro i j x u _ h; simp at h
  | cons y ls ih =>
    intro i j x u hi hx hu
    cases n with
    | zero => omega
    | succ n =>
      rw [List.take_succ_cons, sumsB, List.flatMap_cons]
      cases i with
      | zero =>
        simp at hx
        subst hx
        rw [Nat.zero_mul, Nat.zero_add, List.getElem?_append_left (List.getElem?_eq_some_iff.1 hu).1]
        exact hu
      | succ i =>
        rw [List.getElem?_append_right (by rw [hl]; omega), hl, show (i + 1) * 32 + j - 32 = i * 32 + j by omega]
        exact ih n i j x u (by omega) (by simpa using hx) hu

set_option maxRecDepth 100000 in
set_option maxHeartbeats 4000000 in
theorem twice_any (ls : List (List UInt8)) (ao : Option Addr) (len cap : Nat) (hlen : ls.length = len) (w : World) (ht : Tabs w) (hp : Parts w (.slice ao len cap) ls) :
    Calls Tryd.prog 5 #[.slice ao len cap] w fun e w' => e = .returned (.bool true) ∧ Below w.heap.size w w' := by
  obtain ⟨i0, hi, hz0, hz1, hz2, hz4, hz5⟩ : ∃ i, Tryd.prog.info? 24 = some i ∧ i.size = 32 ∧ i.bytes = 32 ∧ ∃ z, i.zero = some z ∧ z.cells.size = 32 := by
    have h := Tryd.infoHash
    cases hq : Tryd.prog.info? 24 with
    | none => rw [hq] at h; cases h
    | some i =>
      rw [hq] at h
      simp only [Option.map_some, Option.some.injEq, Prod.mk.injEq] at h
      obtain ⟨h1, h2, h3⟩ := h
      cases hz : i.zero with
      | none => rw [hz] at h3; cases h3
      | some z => rw [hz] at h3; exact ⟨i, rfl, h1, h2, z, hz, by simpa using h3⟩
  have HLen := hid hlen
  have HT := hid ht
  have HP := hid hp
  have h2 := ht.two
  clear ht hp hlen
  have each := hid (show ∀ j x, ls[j]? = some x → ∃ ad p c, ao = some ad ∧ w.cell? (ad.add j) = some (.slice p x.length c) ∧ Reads w (.slice p x.length c) (B x) ∧ c ≤ maxLen by
    intro j x hx
    obtain ⟨ao', c', e, _, hn, hcl⟩ := HP.out
    injection e with e1 e2 e3
    subst e1
    cases ao with
    | none => have := hn rfl; subst this; simp at hx
    | some ad =>
      obtain ⟨p, c, k1, k2, k3⟩ := hcl ad rfl j x hx
      exact ⟨ad, p, c, rfl, k1, k2, k3⟩)
  go_enter Tryd.func5, Tryd.ntmps5
  go_wp2_with fail
  refine (known_any _ HT.out).mono ?_
  rintro _ w1 ⟨rfl, hb1⟩
  have Hb1 := hid hb1
  clear hb1
  go_wp2_with fail
  go_loopw [3, 4] (fun v i wr => ∃ j : Nat, j ≤ len ∧ j ≤ 10 ∧ i = .int .i64 j ∧ HasW wr 24 w.heap.size v j (sumsB (ls.take j)) ∧ Below w.heap.size w wr ∧ ∀ (i : Nat) (x : List UInt8), i < j → ls[i]? = some x → x.length ≤ 300) (fun _ i _ => len - (intOf i).toNat)
  case atStart => exact ⟨0, Nat.zero_le _, by omega, rfl, HasW.nil _ _ _, Hb1.out, fun _ _ h => by omega⟩
  case round =>
    obtain ⟨j, hj, hj10, rfl, hH, hb, h300⟩ := hrel
    have H300 := hid h300
    clear h300
    have HH := hid hH
    have Hb := hid hb
    have hszr := hb.size
    clear hH hb
    by_cases hlt : j < len ∧ j < 10
    · have hlt' : (j : Int) < (len : Int) := by omega
      have hlt10 : (j : Int) < 10 := by omega
      have hge' : (0 : Int) ≤ (j : Int) := by omega
      obtain ⟨x, hx⟩ : ∃ x, ls[j]? = some x := ⟨_, List.getElem?_eq_getElem (by rw [HLen.out]; exact hlt.1)⟩
      have Htk := hid (show sumsB (ls.take (j + 1)) = sumsB (ls.take j) ++ B (shaS x) by
        rw [List.take_add_one, hx]; simp [sumsB])
      obtain ⟨ad, p, c, rfl, hcell, hrd, hcm⟩ := each.out j x hx
      have c0 := cell_later Hb.out hcell
      have HR := hid (hrd.later Hb.out)
      have Hx := hid hx
      clear hcell hrd hx
      obtain ⟨N, hN⟩ : ∃ N, x.length = N := ⟨_, rfl⟩
      rw [hN] at c0 HR
      by_cases hbig : (300 : Int) < (N : Int)
      · go_wp2_with fail
        go_ret
        exact ⟨rfl, Hb.out⟩
      go_wp2_with fail
      refine (Sum_any _ (HT.out.below (Hb.out.alloc hszr _) h2) _ [x] (Parts.one (t := 26) (fr := (0, 0)) (by rw [heap_of_alloc, if_pos rfl]) (HR.out.later ((Below.refl _ _).alloc (Nat.le_refl _) _)) hN hcm) (by simp) (by simp; omega)).mono ?_
      rintro _ w2 ⟨rfl, hb2⟩
      have Hb2 := hid (below_seq (Hb.out.alloc hszr (.cells #[.slice p N c] 26)) hb2)
      have HH2 := hid ((HH.out.later ((Below.refl _ _).alloc (Nat.le_refl _) (.cells #[.slice p N c] 26))).later hb2)
      have hs2 := Hb2.out.size
      clear hb2 HH
      rw [show [x].flatten = x by simp]
      obtain ⟨bs, hbs⟩ : ∃ bs, B (shaS x) = bs := ⟨_, rfl⟩
      rw [hbs] at Htk ⊢
      have hbl := hid (show bs.length = 32 by rw [← hbs, B_length, shaS_len])
      have hb1c := hid (show ∀ u ∈ bs, u.oneCell' = true by rw [← hbs]; exact B_one _)
      clear hbs
      have hfold := foldl_set_all bs #[.int .u8 0, .int .u8 0, .int .u8 0, .int .u8 0, .int .u8 0, .int .u8 0, .int .u8 0, .int .u8 0, .int .u8 0, .int .u8 0, .int .u8 0, .int .u8 0, .int .u8 0, .int .u8 0, .int .u8 0, .int .u8 0, .int .u8 0, .int .u8 0, .int .u8 0, .int .u8 0, .int .u8 0, .int .u8 0, .int .u8 0, .int .u8 0, .int .u8 0, .int .u8 0, .int .u8 0, .int .u8 0, .int .u8 0, .int .u8 0, .int .u8 0, .int .u8 0] hbl.out
      obtain ⟨va, vc, rfl⟩ := HH2.out.form
      have hbl2 := hbl.out
      go_wp2_with (at_builtin; go_must (refine wpList_append_wide rfl _ _ 33 33 rfl 24 i0 hz2 Tryd.underlying33 hi hz4 hz0 hz5 hz1 w.heap.size _ j _ rfl (HH2.out.later ((Below.refl _ _).alloc (Nat.le_refl _) _)) (by simp; omega) _ bs rfl (Src.ofSlice _ Tryd.underlying33 ⟨w2.heap.size, 0, none⟩ 1 1 bs (by rw [hbl.out]) (fun j u hj => by rw [Addr.add_lit, Nat.zero_add]; exact (Blk.new w2 24 bs).cell hj) hb1c.out) (by omega) ?_); intro v3 w3 hH3 hb3; replace hH3 := hid hH3; replace hb3 := hid hb3)
      go_roundw
      case rel => exact ⟨j + 1, by omega, by omega, by go_num, by rw [Htk.out]; exact hH3.out, (Hb2.out.alloc hs2 _).trans hb3.out, fun i y hi hy => by
        rcases Nat.lt_or_ge i j with h | h
        · exact H300.out i y h hy
        · have hij : i = j := by omega
          subst hij
          rw [Hx.out] at hy
          cases hy
          rw [hN]; omega⟩
      case measure => simp [intOf]; omega
    · rcases Nat.lt_or_ge j len with hl | hl
      · have hl' : (j : Int) < (len : Int) := by omega
        have hl10 : ¬ (j : Int) < 10 := by omega
        obtain ⟨va, vc, rfl⟩ := HH.out.form
        go_wp2_with fail
        go_loopw [5] (fun i wr => ∃ k : Nat, k ≤ j ∧ i = .int .i64 ((k : Int) - 1) ∧ HasW wr 24 w.heap.size (.slice va j vc) j (sumsB (ls.take j)) ∧ Below w.heap.size w wr) (fun i _ => (intOf i + 1).toNat)
        case atStart => exact ⟨j, Nat.le_refl _, by go_num, HH.out, Hb.out⟩
        case round =>
          obtain ⟨k, hk, rfl, hH, hb⟩ := hrel
          have HH := hid hH
          have Hb := hid hb
          clear hH hb
          by_cases hk0 : k = 0
          · subst hk0
            go_wp2_with fail
            go_ret
            exact ⟨rfl, Hb.out⟩
          obtain ⟨q, rfl⟩ : ∃ q, k = q + 1 := ⟨k - 1, by omega⟩
          rw [show (((q + 1 : Nat) : Int) - 1) = (q : Int) by omega]
          have hqlt : (q : Int) < (len : Int) := by omega
          have hq0 : (0 : Int) ≤ (q : Int) := by omega
          have hqj : (q : Int) < (j : Int) := by omega
          obtain ⟨x, hx⟩ : ∃ x, ls[q]? = some x := ⟨_, List.getElem?_eq_getElem (by rw [HLen.out]; omega)⟩
          obtain ⟨ad, p, c, rfl, hcell, hrd, hcm⟩ := each.out q x hx
          have c0 := cell_later Hb.out hcell
          have HR := hid (hrd.later Hb.out)
          obtain ⟨N, hN⟩ : ∃ N, x.length = N := ⟨_, rfl⟩
          rw [hN] at c0 HR
          have hN300 : N ≤ 300 := by have := H300.out q x (by omega) hx; omega
          clear hcell hrd
          have hcv := run_string _ 26 9 5 Tryd.underlying26 Tryd.underlying5 Tryd.underlying9 HR.out
          go_wp2_with fail
          clear hcv
          obtain ⟨g, rfl⟩ : ∃ g, va = some ⟨g, 0, none⟩ := by
            rcases HH.out with ⟨_, h, _⟩ | ⟨g, _, _, e, _⟩
            · omega
            · injection e with e1 e2 e3; exact ⟨g, e1⟩
          obtain ⟨bs, hbs⟩ : ∃ bs, B (shaS x) = bs := ⟨_, rfl⟩
          have hrg := hid (show wr.drew.rangeAt g (q * 32) bs from fun i v hv => HH.out.cell (sumsB_at j ls q i x v (by omega) hx (by rw [hbs]; exact hv)))
          have hE := eqH (shaS x) (shaS_len x)
          rw [hbs] at hE
          have HE := hid hE
          have HBS := hid hbs
          have hi32 := hid (show (Tryd.prog.info? 24).map (·.size) = some bs.length by rw [← hbs, B_length, shaS_len]; kernel_rfl)
          clear hE hbs hx
          -- the drawn region
          refine wp_region_held_drew (S := fun w' => w'.cell? (ad.add q) = some (.slice p N c) ∧ w'.rangeAt g (q * 32) bs ∧ Reads w' (.slice p N c) (B x)) (by kernel_rfl) (⟨c0, hrg.out, reads_drew HR.out⟩) (fun hHeld => ?_)
          refine wpAnyH_take (i := 0) (v := .slice (some ad) len cap) rfl (by kernel_rfl) (by kernel_rfl) (by kernel_rfl) (fun _ _ _ h => h) (Or.inl ⟨by rfl, by intro w hSw; go_simp⟩) hHeld ?_
          try simp only [Act.put, List.setIfInBounds_toArray, List.set_cons_zero, List.set_cons_succ, List.getElem_toArray, List.getElem_cons_zero, List.getElem_cons_succ]
          refine wpAnyH_take (i := 1) (v := .int .i64 (q : Int)) rfl (by kernel_rfl) (by kernel_rfl) (by kernel_rfl) (fun _ _ _ h => h) (Or.inl ⟨by rfl, by intro w hSw; go_simp⟩) hHeld ?_
          try simp only [Act.put, List.setIfInBounds_toArray, List.set_cons_zero, List.set_cons_succ, List.getElem_toArray, List.getElem_cons_zero, List.getElem_cons_succ]
          refine wpAnyH_take (i := 2) (v := .pointer (some (ad.add q))) rfl (by kernel_rfl) (by kernel_rfl) (by kernel_rfl) (fun _ _ _ h => h) (Or.inl ⟨by rfl, by intro w hSw; go_simp⟩) hHeld ?_
          try simp only [Act.put, List.setIfInBounds_toArray, List.set_cons_zero, List.set_cons_succ, List.getElem_toArray, List.getElem_cons_zero, List.getElem_cons_succ]
          refine wpAnyH_take (i := 3) (v := .slice p N c) rfl (by kernel_rfl) (by kernel_rfl) (by kernel_rfl) (fun _ _ _ h => h) (Or.inl ⟨by rfl, by intro w hSw; have q1 := hSw.1; go_simp⟩) hHeld ?_
          try simp only [Act.put, List.setIfInBounds_toArray, List.set_cons_zero, List.set_cons_succ, List.getElem_toArray, List.getElem_cons_zero, List.getElem_cons_succ]
          refine wpAnyH_take (i := 6) (v := .slice (some ⟨g, 0, none⟩) j vc) rfl (by kernel_rfl) (by kernel_rfl) (by kernel_rfl) (fun _ _ _ h => h) (Or.inl ⟨by rfl, by intro w hSw; go_simp⟩) hHeld ?_
          try simp only [Act.put, List.setIfInBounds_toArray, List.set_cons_zero, List.set_cons_succ, List.getElem_toArray, List.getElem_cons_zero, List.getElem_cons_succ]
          refine wpAnyH_take (i := 7) (v := .int .i64 (q : Int)) rfl (by kernel_rfl) (by kernel_rfl) (by kernel_rfl) (fun _ _ _ h => h) (Or.inl ⟨by rfl, by intro w hSw; go_simp⟩) hHeld ?_
          try simp only [Act.put, List.setIfInBounds_toArray, List.set_cons_zero, List.set_cons_succ, List.getElem_toArray, List.getElem_cons_zero, List.getElem_cons_succ]
          refine wpAnyH_take (i := 8) (v := .pointer (some ⟨g, q * 32, none⟩)) rfl (by kernel_rfl) (by kernel_rfl) (by kernel_rfl) (fun _ _ _ h => h) (Or.inl ⟨by rfl, by intro w hSw; go_simp⟩) hHeld ?_
          try simp only [Act.put, List.setIfInBounds_toArray, List.set_cons_zero, List.set_cons_succ, List.getElem_toArray, List.getElem_cons_zero, List.getElem_cons_succ]
          refine wpAnyH_take (i := 9) (v := _) rfl (by kernel_rfl) (by kernel_rfl) (by kernel_rfl) (fun _ _ _ h => h) (yieldsIf_load_mid (by rfl) _ _ rfl _ _ rfl bs _ (fun w hSw => hSw.2.1) Tryd.underlying24 rfl hi32.out) hHeld ?_
          try simp only [Act.put, List.setIfInBounds_toArray, List.set_cons_zero, List.set_cons_succ, List.getElem_toArray, List.getElem_cons_zero, List.getElem_cons_succ]
          have hHeld0 := hid hHeld
          refine wpAnyH_ready (rs := [4]) (by kernel_rfl) (by simp) ?_
          refine AllReadyH.cons rfl (fun K hK => ?_) AllReadyH.nil
          go_simp
          refine hK.out _ _ (⟨cell_later (Below.alloc (Below.refl _ _) (Nat.le_refl _) _) hHeld0.out.1, fun j v hv => cell_later (Below.alloc (Below.refl _ _) (Nat.le_refl _) _) (hHeld0.out.2.1 j v hv), hHeld0.out.2.2.later (Below.alloc (Below.refl _ _) (Nat.le_refl _) _)⟩) (fun hHeld => ?_)
          clear hK K
          try simp only [Act.put, List.setIfInBounds_toArray, List.set_cons_zero, List.set_cons_succ, List.getElem_toArray, List.getElem_cons_zero, List.getElem_cons_succ]
          have hHeld1 := hid hHeld
          have HbA := hid (show Below w.heap.size w (wr.drew.alloc (.cells #[.slice p N c] 26)) from Hb.out.drew.alloc (by show w.heap.size ≤ wr.heap.size; exact Hb.out.size) _)
          have HHA := hid ((HH.out.later ((Below.refl _ _).drew)).later (Below.alloc (Below.refl _ _) (Nat.le_refl _) (.cells #[.slice p N c] 26)))
          refine wpAnyH_ready (rs := [5]) (by kernel_rfl) (by simp) ?_
          refine AllReadyH.cons rfl (fun K hK => ?_) AllReadyH.nil
          go_simp
          refine (Sum_any _ (HT.out.below HbA.out h2) _ [x] (Parts.one (t := 26) (fr := (0, 0)) (by rw [heap_of_alloc]; exact if_pos rfl) hHeld1.out.2.2 hN hcm) (by simp) (by simp; omega)).mono ?_
          rintro _ w2 ⟨rfl, hb2⟩
          rw [show [x].flatten = x by simp, HBS.out]
          refine hK.out _ _ (⟨cell_later hb2 hHeld1.out.1, fun j v hv => cell_later hb2 (hHeld1.out.2.1 j v hv), hHeld1.out.2.2.later hb2⟩) (fun hHeld => ?_)
          clear hK K
          try simp only [Act.put, List.setIfInBounds_toArray, List.set_cons_zero, List.set_cons_succ, List.getElem_toArray, List.getElem_cons_zero, List.getElem_cons_succ]
          have hHeld2 := hid hHeld
          have Hb2 := hid (below_seq HbA.out hb2)
          have HH2 := hid (HHA.out.later hb2)
          clear hb2
          refine wpAnyH_take (i := 10) (v := .bool false) rfl (by kernel_rfl) (by kernel_rfl) (by kernel_rfl) (fun _ _ _ h => h) (Or.inl ⟨by rfl, by intro w hSw; have q1 := HE.out w; go_simp⟩) hHeld ?_
          try simp only [Act.put, List.setIfInBounds_toArray, List.set_cons_zero, List.set_cons_succ, List.getElem_toArray, List.getElem_cons_zero, List.getElem_cons_succ]
          refine wpAnyH_take (i := 11) (v := .bool false) rfl (by kernel_rfl) (by kernel_rfl) (by kernel_rfl) (fun _ _ _ h => h) (Or.inl ⟨by rfl, by intro w hSw; go_simp⟩) hHeld ?_
          try simp only [Act.put, List.setIfInBounds_toArray, List.set_cons_zero, List.set_cons_succ, List.getElem_toArray, List.getElem_cons_zero, List.getElem_cons_succ]
          refine wpAnyH_take (i := 12) (v := .slice (some ⟨g, 0, none⟩) j vc) rfl (by kernel_rfl) (by kernel_rfl) (by kernel_rfl) (fun _ _ _ h => h) (Or.inl ⟨by rfl, by intro w hSw; go_simp⟩) hHeld ?_
          try simp only [Act.put, List.setIfInBounds_toArray, List.set_cons_zero, List.set_cons_succ, List.getElem_toArray, List.getElem_cons_zero, List.getElem_cons_succ]
          refine wpAnyH_take (i := 13) (v := .int .i64 (q : Int)) rfl (by kernel_rfl) (by kernel_rfl) (by kernel_rfl) (fun _ _ _ h => h) (Or.inl ⟨by rfl, by intro w hSw; go_simp⟩) hHeld ?_
          try simp only [Act.put, List.setIfInBounds_toArray, List.set_cons_zero, List.set_cons_succ, List.getElem_toArray, List.getElem_cons_zero, List.getElem_cons_succ]
          refine wpAnyH_take (i := 14) (v := .pointer (some ⟨g, q * 32, none⟩)) rfl (by kernel_rfl) (by kernel_rfl) (by kernel_rfl) (fun _ _ _ h => h) (Or.inl ⟨by rfl, by intro w hSw; go_simp⟩) hHeld ?_
          try simp only [Act.put, List.setIfInBounds_toArray, List.set_cons_zero, List.set_cons_succ, List.getElem_toArray, List.getElem_cons_zero, List.getElem_cons_succ]
          refine wpAnyH_take (i := 15) (v := _) rfl (by kernel_rfl) (by kernel_rfl) (by kernel_rfl) (fun _ _ _ h => h) (yieldsIf_load_mid (by rfl) _ _ rfl _ _ rfl bs _ (fun w hSw => hSw.2.1) Tryd.underlying24 rfl hi32.out) hHeld ?_
          try simp only [Act.put, List.setIfInBounds_toArray, List.set_cons_zero, List.set_cons_succ, List.getElem_toArray, List.getElem_cons_zero, List.getElem_cons_succ]
          refine wpAnyH_take (i := 16) (v := .slice (some ad) len cap) rfl (by kernel_rfl) (by kernel_rfl) (by kernel_rfl) (fun _ _ _ h => h) (Or.inl ⟨by rfl, by intro w hSw; go_simp⟩) hHeld ?_
          try simp only [Act.put, List.setIfInBounds_toArray, List.set_cons_zero, List.set_cons_succ, List.getElem_toArray, List.getElem_cons_zero, List.getElem_cons_succ]
          refine wpAnyH_take (i := 17) (v := .int .i64 (q : Int)) rfl (by kernel_rfl) (by kernel_rfl) (by kernel_rfl) (fun _ _ _ h => h) (Or.inl ⟨by rfl, by intro w hSw; go_simp⟩) hHeld ?_
          try simp only [Act.put, List.setIfInBounds_toArray, List.set_cons_zero, List.set_cons_succ, List.getElem_toArray, List.getElem_cons_zero, List.getElem_cons_succ]
          refine wpAnyH_take (i := 18) (v := .pointer (some (ad.add q))) rfl (by kernel_rfl) (by kernel_rfl) (by kernel_rfl) (fun _ _ _ h => h) (Or.inl ⟨by rfl, by intro w hSw; go_simp⟩) hHeld ?_
          try simp only [Act.put, List.setIfInBounds_toArray, List.set_cons_zero, List.set_cons_succ, List.getElem_toArray, List.getElem_cons_zero, List.getElem_cons_succ]
          refine wpAnyH_take (i := 19) (v := .slice p N c) rfl (by kernel_rfl) (by kernel_rfl) (by kernel_rfl) (fun _ _ _ h => h) (Or.inl ⟨by rfl, by intro w hSw; have q1 := hSw.1; go_simp⟩) hHeld ?_
          try simp only [Act.put, List.setIfInBounds_toArray, List.set_cons_zero, List.set_cons_succ, List.getElem_toArray, List.getElem_cons_zero, List.getElem_cons_succ]
          refine wpAnyH_ready (rs := [20]) (by kernel_rfl) (by simp) ?_
          refine AllReadyH.cons rfl (fun K hK => ?_) AllReadyH.nil
          go_simp
          refine (refSum_any x p N c hN _ hHeld2.out.2.2 (by omega)).mono ?_
          rintro _ w3 ⟨rfl, hb3⟩
          rw [HBS.out]
          refine hK.out _ _ (⟨cell_later hb3 hHeld2.out.1, fun j v hv => cell_later hb3 (hHeld2.out.2.1 j v hv), hHeld2.out.2.2.later hb3⟩) (fun hHeld => ?_)
          clear hK K
          try simp only [Act.put, List.setIfInBounds_toArray, List.set_cons_zero, List.set_cons_succ, List.getElem_toArray, List.getElem_cons_zero, List.getElem_cons_succ]
          have Hb3 := hid (below_seq Hb2.out hb3)
          have HH3 := hid (HH2.out.later hb3)
          clear hb3
          refine wpAnyH_take (i := 21) (v := .bool false) rfl (by kernel_rfl) (by kernel_rfl) (by kernel_rfl) (fun _ _ _ h => h) (Or.inl ⟨by rfl, by intro w hSw; have q1 := HE.out w; go_simp⟩) hHeld ?_
          try simp only [Act.put, List.setIfInBounds_toArray, List.set_cons_zero, List.set_cons_succ, List.getElem_toArray, List.getElem_cons_zero, List.getElem_cons_succ]
          refine wpAnyH_take (i := 22) (v := .bool false) rfl (by kernel_rfl) (by kernel_rfl) (by kernel_rfl) (fun _ _ _ h => h) (Or.inl ⟨by rfl, by intro w hSw; go_simp⟩) hHeld ?_
          try simp only [Act.put, List.setIfInBounds_toArray, List.set_cons_zero, List.set_cons_succ, List.getElem_toArray, List.getElem_cons_zero, List.getElem_cons_succ]
          refine wpAnyH_take (i := 23) (v := .bool false) rfl (by kernel_rfl) (by kernel_rfl) (by kernel_rfl) (fun _ _ _ h => h) (Or.inl ⟨by rfl, by intro w hSw; go_simp⟩) hHeld ?_
          try simp only [Act.put, List.setIfInBounds_toArray, List.set_cons_zero, List.set_cons_succ, List.getElem_toArray, List.getElem_cons_zero, List.getElem_cons_succ]
          refine wpAnyH_take (i := 24) (v := .slice (some ad) len cap) rfl (by kernel_rfl) (by kernel_rfl) (by kernel_rfl) (fun _ _ _ h => h) (Or.inl ⟨by rfl, by intro w hSw; go_simp⟩) hHeld ?_
          try simp only [Act.put, List.setIfInBounds_toArray, List.set_cons_zero, List.set_cons_succ, List.getElem_toArray, List.getElem_cons_zero, List.getElem_cons_succ]
          refine wpAnyH_take (i := 25) (v := .int .i64 (q : Int)) rfl (by kernel_rfl) (by kernel_rfl) (by kernel_rfl) (fun _ _ _ h => h) (Or.inl ⟨by rfl, by intro w hSw; go_simp⟩) hHeld ?_
          try simp only [Act.put, List.setIfInBounds_toArray, List.set_cons_zero, List.set_cons_succ, List.getElem_toArray, List.getElem_cons_zero, List.getElem_cons_succ]
          refine wpAnyH_take (i := 26) (v := .pointer (some (ad.add q))) rfl (by kernel_rfl) (by kernel_rfl) (by kernel_rfl) (fun _ _ _ h => h) (Or.inl ⟨by rfl, by intro w hSw; go_simp⟩) hHeld ?_
          try simp only [Act.put, List.setIfInBounds_toArray, List.set_cons_zero, List.set_cons_succ, List.getElem_toArray, List.getElem_cons_zero, List.getElem_cons_succ]
          refine wpAnyH_take (i := 27) (v := .slice p N c) rfl (by kernel_rfl) (by kernel_rfl) (by kernel_rfl) (fun _ _ _ h => h) (Or.inl ⟨by rfl, by intro w hSw; have q1 := hSw.1; go_simp⟩) hHeld ?_
          try simp only [Act.put, List.setIfInBounds_toArray, List.set_cons_zero, List.set_cons_succ, List.getElem_toArray, List.getElem_cons_zero, List.getElem_cons_succ]
          refine wpAnyH_take (i := 29) (v := .string ⟨x.toArray⟩) rfl (by kernel_rfl) (by kernel_rfl) (by kernel_rfl) (fun _ _ _ h => h) (Or.inl ⟨by rfl, by intro w hSw; go_simp⟩) hHeld ?_
          try simp only [Act.put, List.setIfInBounds_toArray, List.set_cons_zero, List.set_cons_succ, List.getElem_toArray, List.getElem_cons_zero, List.getElem_cons_succ]
          refine wpAnyH_take (i := 28) (v := .string ⟨x.toArray⟩) rfl (by kernel_rfl) (by kernel_rfl) (by kernel_rfl) (fun _ _ _ h => h) (Or.inl ⟨by rfl, by intro w hSw; have q1 := run_string w 26 9 5 Tryd.underlying26 Tryd.underlying5 Tryd.underlying9 hSw.2.2; go_simp⟩) hHeld ?_
          try simp only [Act.put, List.setIfInBounds_toArray, List.set_cons_zero, List.set_cons_succ, List.getElem_toArray, List.getElem_cons_zero, List.getElem_cons_succ]
          refine wpAnyH_take (i := 30) (v := .bool false) rfl (by kernel_rfl) (by kernel_rfl) (by kernel_rfl) (fun _ _ _ h => h) (Or.inl ⟨by rfl, by intro w hSw; go_simp⟩) hHeld ?_
          try simp only [Act.put, List.setIfInBounds_toArray, List.set_cons_zero, List.set_cons_succ, List.getElem_toArray, List.getElem_cons_zero, List.getElem_cons_succ]
          refine wpAnyH_take (i := 31) (v := .bool false) rfl (by kernel_rfl) (by kernel_rfl) (by kernel_rfl) (fun _ _ _ h => h) (Or.inl ⟨by rfl, by intro w hSw; go_simp⟩) hHeld ?_
          try simp only [Act.put, List.setIfInBounds_toArray, List.set_cons_zero, List.set_cons_succ, List.getElem_toArray, List.getElem_cons_zero, List.getElem_cons_succ]
          refine wpAnyH_done (by kernel_rfl) ?_ _
          go_wp2_with fail
          go_roundw
          case rel => exact ⟨q, by omega, by go_num, HH3.out, Hb3.out⟩
          case measure => simp [intOf]
          -- its end
      · have hl' : ¬ (j : Int) < (len : Int) := by omega
        obtain ⟨va, vc, rfl⟩ := HH.out.form
        go_wp2_with fail
        go_loopw [5] (fun i wr => ∃ k : Nat, k ≤ j ∧ i = .int .i64 ((k : Int) - 1) ∧ HasW wr 24 w.heap.size (.slice va j vc) j (sumsB (ls.take j)) ∧ Below w.heap.size w wr) (fun i _ => (intOf i + 1).toNat)
        case atStart => exact ⟨j, Nat.le_refl _, by go_num, HH.out, Hb.out⟩
        case round =>
          obtain ⟨k, hk, rfl, hH, hb⟩ := hrel
          have HH := hid hH
          have Hb := hid hb
          clear hH hb
          by_cases hk0 : k = 0
          · subst hk0
            go_wp2_with fail
            go_ret
            exact ⟨rfl, Hb.out⟩
          obtain ⟨q, rfl⟩ : ∃ q, k = q + 1 := ⟨k - 1, by omega⟩
          rw [show (((q + 1 : Nat) : Int) - 1) = (q : Int) by omega]
          have hqlt : (q : Int) < (len : Int) := by omega
          have hq0 : (0 : Int) ≤ (q : Int) := by omega
          have hqj : (q : Int) < (j : Int) := by omega
          obtain ⟨x, hx⟩ : ∃ x, ls[q]? = some x := ⟨_, List.getElem?_eq_getElem (by rw [HLen.out]; omega)⟩
          obtain ⟨ad, p, c, rfl, hcell, hrd, hcm⟩ := each.out q x hx
          have c0 := cell_later Hb.out hcell
          have HR := hid (hrd.later Hb.out)
          obtain ⟨N, hN⟩ : ∃ N, x.length = N := ⟨_, rfl⟩
          rw [hN] at c0 HR
          have hN300 : N ≤ 300 := by have := H300.out q x (by omega) hx; omega
          clear hcell hrd
          have hcv := run_string _ 26 9 5 Tryd.underlying26 Tryd.underlying5 Tryd.underlying9 HR.out
          go_wp2_with fail
          clear hcv
          obtain ⟨g, rfl⟩ : ∃ g, va = some ⟨g, 0, none⟩ := by
            rcases HH.out with ⟨_, h, _⟩ | ⟨g, _, _, e, _⟩
            · omega
            · injection e with e1 e2 e3; exact ⟨g, e1⟩
          obtain ⟨bs, hbs⟩ : ∃ bs, B (shaS x) = bs := ⟨_, rfl⟩
          have hrg := hid (show wr.drew.rangeAt g (q * 32) bs from fun i v hv => HH.out.cell (sumsB_at j ls q i x v (by omega) hx (by rw [hbs]; exact hv)))
          have hE := eqH (shaS x) (shaS_len x)
          rw [hbs] at hE
          have HE := hid hE
          have HBS := hid hbs
          have hi32 := hid (show (Tryd.prog.info? 24).map (·.size) = some bs.length by rw [← hbs, B_length, shaS_len]; kernel_rfl)
          clear hE hbs hx
          -- the drawn region
          refine wp_region_held_drew (S := fun w' => w'.cell? (ad.add q) = some (.slice p N c) ∧ w'.rangeAt g (q * 32) bs ∧ Reads w' (.slice p N c) (B x)) (by kernel_rfl) (⟨c0, hrg.out, reads_drew HR.out⟩) (fun hHeld => ?_)
          refine wpAnyH_take (i := 0) (v := .slice (some ad) len cap) rfl (by kernel_rfl) (by kernel_rfl) (by kernel_rfl) (fun _ _ _ h => h) (Or.inl ⟨by rfl, by intro w hSw; go_simp⟩) hHeld ?_
          try simp only [Act.put, List.setIfInBounds_toArray, List.set_cons_zero, List.set_cons_succ, List.getElem_toArray, List.getElem_cons_zero, List.getElem_cons_succ]
          refine wpAnyH_take (i := 1) (v := .int .i64 (q : Int)) rfl (by kernel_rfl) (by kernel_rfl) (by kernel_rfl) (fun _ _ _ h => h) (Or.inl ⟨by rfl, by intro w hSw; go_simp⟩) hHeld ?_
          try simp only [Act.put, List.setIfInBounds_toArray, List.set_cons_zero, List.set_cons_succ, List.getElem_toArray, List.getElem_cons_zero, List.getElem_cons_succ]
          refine wpAnyH_take (i := 2) (v := .pointer (some (ad.add q))) rfl (by kernel_rfl) (by kernel_rfl) (by kernel_rfl) (fun _ _ _ h => h) (Or.inl ⟨by rfl, by intro w hSw; go_simp⟩) hHeld ?_
          try simp only [Act.put, List.setIfInBounds_toArray, List.set_cons_zero, List.set_cons_succ, List.getElem_toArray, List.getElem_cons_zero, List.getElem_cons_succ]
          refine wpAnyH_take (i := 3) (v := .slice p N c) rfl (by kernel_rfl) (by kernel_rfl) (by kernel_rfl) (fun _ _ _ h => h) (Or.inl ⟨by rfl, by intro w hSw; have q1 := hSw.1; go_simp⟩) hHeld ?_
          try simp only [Act.put, List.setIfInBounds_toArray, List.set_cons_zero, List.set_cons_succ, List.getElem_toArray, List.getElem_cons_zero, List.getElem_cons_succ]
          refine wpAnyH_take (i := 6) (v := .slice (some ⟨g, 0, none⟩) j vc) rfl (by kernel_rfl) (by kernel_rfl) (by kernel_rfl) (fun _ _ _ h => h) (Or.inl ⟨by rfl, by intro w hSw; go_simp⟩) hHeld ?_
          try simp only [Act.put, List.setIfInBounds_toArray, List.set_cons_zero, List.set_cons_succ, List.getElem_toArray, List.getElem_cons_zero, List.getElem_cons_succ]
          refine wpAnyH_take (i := 7) (v := .int .i64 (q : Int)) rfl (by kernel_rfl) (by kernel_rfl) (by kernel_rfl) (fun _ _ _ h => h) (Or.inl ⟨by rfl, by intro w hSw; go_simp⟩) hHeld ?_
          try simp only [Act.put, List.setIfInBounds_toArray, List.set_cons_zero, List.set_cons_succ, List.getElem_toArray, List.getElem_cons_zero, List.getElem_cons_succ]
          refine wpAnyH_take (i := 8) (v := .pointer (some ⟨g, q * 32, none⟩)) rfl (by kernel_rfl) (by kernel_rfl) (by kernel_rfl) (fun _ _ _ h => h) (Or.inl ⟨by rfl, by intro w hSw; go_simp⟩) hHeld ?_
          try simp only [Act.put, List.setIfInBounds_toArray, List.set_cons_zero, List.set_cons_succ, List.getElem_toArray, List.getElem_cons_zero, List.getElem_cons_succ]
          refine wpAnyH_take (i := 9) (v := _) rfl (by kernel_rfl) (by kernel_rfl) (by kernel_rfl) (fun _ _ _ h => h) (yieldsIf_load_mid (by rfl) _ _ rfl _ _ rfl bs _ (fun w hSw => hSw.2.1) Tryd.underlying24 rfl hi32.out) hHeld ?_
          try simp only [Act.put, List.setIfInBounds_toArray, List.set_cons_zero, List.set_cons_succ, List.getElem_toArray, List.getElem_cons_zero, List.getElem_cons_succ]
          have hHeld0 := hid hHeld
          refine wpAnyH_ready (rs := [4]) (by kernel_rfl) (by simp) ?_
          refine AllReadyH.cons rfl (fun K hK => ?_) AllReadyH.nil
          go_simp
          refine hK.out _ _ (⟨cell_later (Below.alloc (Below.refl _ _) (Nat.le_refl _) _) hHeld0.out.1, fun j v hv => cell_later (Below.alloc (Below.refl _ _) (Nat.le_refl _) _) (hHeld0.out.2.1 j v hv), hHeld0.out.2.2.later (Below.alloc (Below.refl _ _) (Nat.le_refl _) _)⟩) (fun hHeld => ?_)
          clear hK K
          try simp only [Act.put, List.setIfInBounds_toArray, List.set_cons_zero, List.set_cons_succ, List.getElem_toArray, List.getElem_cons_zero, List.getElem_cons_succ]
          have hHeld1 := hid hHeld
          have HbA := hid (show Below w.heap.size w (wr.drew.alloc (.cells #[.slice p N c] 26)) from Hb.out.drew.alloc (by show w.heap.size ≤ wr.heap.size; exact Hb.out.size) _)
          have HHA := hid ((HH.out.later ((Below.refl _ _).drew)).later (Below.alloc (Below.refl _ _) (Nat.le_refl _) (.cells #[.slice p N c] 26)))
          refine wpAnyH_ready (rs := [5]) (by kernel_rfl) (by simp) ?_
          refine AllReadyH.cons rfl (fun K hK => ?_) AllReadyH.nil
          go_simp
          refine (Sum_any _ (HT.out.below HbA.out h2) _ [x] (Parts.one (t := 26) (fr := (0, 0)) (by rw [heap_of_alloc]; exact if_pos rfl) hHeld1.out.2.2 hN hcm) (by simp) (by simp; omega)).mono ?_
          rintro _ w2 ⟨rfl, hb2⟩
          rw [show [x].flatten = x by simp, HBS.out]
          refine hK.out _ _ (⟨cell_later hb2 hHeld1.out.1, fun j v hv => cell_later hb2 (hHeld1.out.2.1 j v hv), hHeld1.out.2.2.later hb2⟩) (fun hHeld => ?_)
          clear hK K
          try simp only [Act.put, List.setIfInBounds_toArray, List.set_cons_zero, List.set_cons_succ, List.getElem_toArray, List.getElem_cons_zero, List.getElem_cons_succ]
          have hHeld2 := hid hHeld
          have Hb2 := hid (below_seq HbA.out hb2)
          have HH2 := hid (HHA.out.later hb2)
          clear hb2
          refine wpAnyH_take (i := 10) (v := .bool false) rfl (by kernel_rfl) (by kernel_rfl) (by kernel_rfl) (fun _ _ _ h => h) (Or.inl ⟨by rfl, by intro w hSw; have q1 := HE.out w; go_simp⟩) hHeld ?_
          try simp only [Act.put, List.setIfInBounds_toArray, List.set_cons_zero, List.set_cons_succ, List.getElem_toArray, List.getElem_cons_zero, List.getElem_cons_succ]
          refine wpAnyH_take (i := 11) (v := .bool false) rfl (by kernel_rfl) (by kernel_rfl) (by kernel_rfl) (fun _ _ _ h => h) (Or.inl ⟨by rfl, by intro w hSw; go_simp⟩) hHeld ?_
          try simp only [Act.put, List.setIfInBounds_toArray, List.set_cons_zero, List.set_cons_succ, List.getElem_toArray, List.getElem_cons_zero, List.getElem_cons_succ]
          refine wpAnyH_take (i := 12) (v := .slice (some ⟨g, 0, none⟩) j vc) rfl (by kernel_rfl) (by kernel_rfl) (by kernel_rfl) (fun _ _ _ h => h) (Or.inl ⟨by rfl, by intro w hSw; go_simp⟩) hHeld ?_
          try simp only [Act.put, List.setIfInBounds_toArray, List.set_cons_zero, List.set_cons_succ, List.getElem_toArray, List.getElem_cons_zero, List.getElem_cons_succ]
          refine wpAnyH_take (i := 13) (v := .int .i64 (q : Int)) rfl (by kernel_rfl) (by kernel_rfl) (by kernel_rfl) (fun _ _ _ h => h) (Or.inl ⟨by rfl, by intro w hSw; go_simp⟩) hHeld ?_
          try simp only [Act.put, List.setIfInBounds_toArray, List.set_cons_zero, List.set_cons_succ, List.getElem_toArray, List.getElem_cons_zero, List.getElem_cons_succ]
          refine wpAnyH_take (i := 14) (v := .pointer (some ⟨g, q * 32, none⟩)) rfl (by kernel_rfl) (by kernel_rfl) (by kernel_rfl) (fun _ _ _ h => h) (Or.inl ⟨by rfl, by intro w hSw; go_simp⟩) hHeld ?_
          try simp only [Act.put, List.setIfInBounds_toArray, List.set_cons_zero, List.set_cons_succ, List.getElem_toArray, List.getElem_cons_zero, List.getElem_cons_succ]
          refine wpAnyH_take (i := 15) (v := _) rfl (by kernel_rfl) (by kernel_rfl) (by kernel_rfl) (fun _ _ _ h => h) (yieldsIf_load_mid (by rfl) _ _ rfl _ _ rfl bs _ (fun w hSw => hSw.2.1) Tryd.underlying24 rfl hi32.out) hHeld ?_
          try simp only [Act.put, List.setIfInBounds_toArray, List.set_cons_zero, List.set_cons_succ, List.getElem_toArray, List.getElem_cons_zero, List.getElem_cons_succ]
          refine wpAnyH_take (i := 16) (v := .slice (some ad) len cap) rfl (by kernel_rfl) (by kernel_rfl) (by kernel_rfl) (fun _ _ _ h => h) (Or.inl ⟨by rfl, by intro w hSw; go_simp⟩) hHeld ?_
          try simp only [Act.put, List.setIfInBounds_toArray, List.set_cons_zero, List.set_cons_succ, List.getElem_toArray, List.getElem_cons_zero, List.getElem_cons_succ]
          refine wpAnyH_take (i := 17) (v := .int .i64 (q : Int)) rfl (by kernel_rfl) (by kernel_rfl) (by kernel_rfl) (fun _ _ _ h => h) (Or.inl ⟨by rfl, by intro w hSw; go_simp⟩) hHeld ?_
          try simp only [Act.put, List.setIfInBounds_toArray, List.set_cons_zero, List.set_cons_succ, List.getElem_toArray, List.getElem_cons_zero, List.getElem_cons_succ]
          refine wpAnyH_take (i := 18) (v := .pointer (some (ad.add q))) rfl (by kernel_rfl) (by kernel_rfl) (by kernel_rfl) (fun _ _ _ h => h) (Or.inl ⟨by rfl, by intro w hSw; go_simp⟩) hHeld ?_
          try simp only [Act.put, List.setIfInBounds_toArray, List.set_cons_zero, List.set_cons_succ, List.getElem_toArray, List.getElem_cons_zero, List.getElem_cons_succ]
          refine wpAnyH_take (i := 19) (v := .slice p N c) rfl (by kernel_rfl) (by kernel_rfl) (by kernel_rfl) (fun _ _ _ h => h) (Or.inl ⟨by rfl, by intro w hSw; have q1 := hSw.1; go_simp⟩) hHeld ?_
          try simp only [Act.put, List.setIfInBounds_toArray, List.set_cons_zero, List.set_cons_succ, List.getElem_toArray, List.getElem_cons_zero, List.getElem_cons_succ]
          refine wpAnyH_ready (rs := [20]) (by kernel_rfl) (by simp) ?_
          refine AllReadyH.cons rfl (fun K hK => ?_) AllReadyH.nil
          go_simp
          refine (refSum_any x p N c hN _ hHeld2.out.2.2 (by omega)).mono ?_
          rintro _ w3 ⟨rfl, hb3⟩
          rw [HBS.out]
          refine hK.out _ _ (⟨cell_later hb3 hHeld2.out.1, fun j v hv => cell_later hb3 (hHeld2.out.2.1 j v hv), hHeld2.out.2.2.later hb3⟩) (fun hHeld => ?_)
          clear hK K
          try simp only [Act.put, List.setIfInBounds_toArray, List.set_cons_zero, List.set_cons_succ, List.getElem_toArray, List.getElem_cons_zero, List.getElem_cons_succ]
          have Hb3 := hid (below_seq Hb2.out hb3)
          have HH3 := hid (HH2.out.later hb3)
          clear hb3
          refine wpAnyH_take (i := 21) (v := .bool false) rfl (by kernel_rfl) (by kernel_rfl) (by kernel_rfl) (fun _ _ _ h => h) (Or.inl ⟨by rfl, by intro w hSw; have q1 := HE.out w; go_simp⟩) hHeld ?_
          try simp only [Act.put, List.setIfInBounds_toArray, List.set_cons_zero, List.set_cons_succ, List.getElem_toArray, List.getElem_cons_zero, List.getElem_cons_succ]
          refine wpAnyH_take (i := 22) (v := .bool false) rfl (by kernel_rfl) (by kernel_rfl) (by kernel_rfl) (fun _ _ _ h => h) (Or.inl ⟨by rfl, by intro w hSw; go_simp⟩) hHeld ?_
          try simp only [Act.put, List.setIfInBounds_toArray, List.set_cons_zero, List.set_cons_succ, List.getElem_toArray, List.getElem_cons_zero, List.getElem_cons_succ]
          refine wpAnyH_take (i := 23) (v := .bool false) rfl (by kernel_rfl) (by kernel_rfl) (by kernel_rfl) (fun _ _ _ h => h) (Or.inl ⟨by rfl, by intro w hSw; go_simp⟩) hHeld ?_
          try simp only [Act.put, List.setIfInBounds_toArray, List.set_cons_zero, List.set_cons_succ, List.getElem_toArray, List.getElem_cons_zero, List.getElem_cons_succ]
          refine wpAnyH_take (i := 24) (v := .slice (some ad) len cap) rfl (by kernel_rfl) (by kernel_rfl) (by kernel_rfl) (fun _ _ _ h => h) (Or.inl ⟨by rfl, by intro w hSw; go_simp⟩) hHeld ?_
          try simp only [Act.put, List.setIfInBounds_toArray, List.set_cons_zero, List.set_cons_succ, List.getElem_toArray, List.getElem_cons_zero, List.getElem_cons_succ]
          refine wpAnyH_take (i := 25) (v := .int .i64 (q : Int)) rfl (by kernel_rfl) (by kernel_rfl) (by kernel_rfl) (fun _ _ _ h => h) (Or.inl ⟨by rfl, by intro w hSw; go_simp⟩) hHeld ?_
          try simp only [Act.put, List.setIfInBounds_toArray, List.set_cons_zero, List.set_cons_succ, List.getElem_toArray, List.getElem_cons_zero, List.getElem_cons_succ]
          refine wpAnyH_take (i := 26) (v := .pointer (some (ad.add q))) rfl (by kernel_rfl) (by kernel_rfl) (by kernel_rfl) (fun _ _ _ h => h) (Or.inl ⟨by rfl, by intro w hSw; go_simp⟩) hHeld ?_
          try simp only [Act.put, List.setIfInBounds_toArray, List.set_cons_zero, List.set_cons_succ, List.getElem_toArray, List.getElem_cons_zero, List.getElem_cons_succ]
          refine wpAnyH_take (i := 27) (v := .slice p N c) rfl (by kernel_rfl) (by kernel_rfl) (by kernel_rfl) (fun _ _ _ h => h) (Or.inl ⟨by rfl, by intro w hSw; have q1 := hSw.1; go_simp⟩) hHeld ?_
          try simp only [Act.put, List.setIfInBounds_toArray, List.set_cons_zero, List.set_cons_succ, List.getElem_toArray, List.getElem_cons_zero, List.getElem_cons_succ]
          refine wpAnyH_take (i := 29) (v := .string ⟨x.toArray⟩) rfl (by kernel_rfl) (by kernel_rfl) (by kernel_rfl) (fun _ _ _ h => h) (Or.inl ⟨by rfl, by intro w hSw; go_simp⟩) hHeld ?_
          try simp only [Act.put, List.setIfInBounds_toArray, List.set_cons_zero, List.set_cons_succ, List.getElem_toArray, List.getElem_cons_zero, List.getElem_cons_succ]
          refine wpAnyH_take (i := 28) (v := .string ⟨x.toArray⟩) rfl (by kernel_rfl) (by kernel_rfl) (by kernel_rfl) (fun _ _ _ h => h) (Or.inl ⟨by rfl, by intro w hSw; have q1 := run_string w 26 9 5 Tryd.underlying26 Tryd.underlying5 Tryd.underlying9 hSw.2.2; go_simp⟩) hHeld ?_
          try simp only [Act.put, List.setIfInBounds_toArray, List.set_cons_zero, List.set_cons_succ, List.getElem_toArray, List.getElem_cons_zero, List.getElem_cons_succ]
          refine wpAnyH_take (i := 30) (v := .bool false) rfl (by kernel_rfl) (by kernel_rfl) (by kernel_rfl) (fun _ _ _ h => h) (Or.inl ⟨by rfl, by intro w hSw; go_simp⟩) hHeld ?_
          try simp only [Act.put, List.setIfInBounds_toArray, List.set_cons_zero, List.set_cons_succ, List.getElem_toArray, List.getElem_cons_zero, List.getElem_cons_succ]
          refine wpAnyH_take (i := 31) (v := .bool false) rfl (by kernel_rfl) (by kernel_rfl) (by kernel_rfl) (fun _ _ _ h => h) (Or.inl ⟨by rfl, by intro w hSw; go_simp⟩) hHeld ?_
          try simp only [Act.put, List.setIfInBounds_toArray, List.set_cons_zero, List.set_cons_succ, List.getElem_toArray, List.getElem_cons_zero, List.getElem_cons_succ]
          refine wpAnyH_done (by kernel_rfl) ?_ _
          go_wp2_with fail
          go_roundw
          case rel => exact ⟨q, by omega, by go_num, HH3.out, Hb3.out⟩
          case measure => simp [intOf]
          -- its end
end Go.Proofs.YtmfmbcghknknjaaDoor
