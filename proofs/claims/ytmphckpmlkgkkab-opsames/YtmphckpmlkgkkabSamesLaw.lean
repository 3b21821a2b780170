/- The law OpSames: operations that differ in one part are not the same, though they do the same. -/
import Derived.Test.YtmphckpmlkgkkabKnown4
import Derived.Test.YtmphckpmlkgkkabSame
namespace Go.Proofs.Ytmphckpmlkgkkab
open Go.RowKit
set_option linter.unusedSimpArgs false
set_option linter.unusedVariables false

/-- The first k parts. -/
theorem cut_front {w : World} {v : Value} {o : List Cp} (h : RC w v o) (k : Nat) (h2 : k ≤ o.length) (i : Int) (hi : i = (k : Int)) :
    ∃ ao cap, (∀ wx, (Instr.slice 25 v none (some (.int .i64 i)) none).run Try.prog wx = .ok (.slice ao k cap) wx) ∧ RC w (.slice ao k cap) (o.take k) := by
  subst hi
  have hl : (o.take k).length = k := by rw [List.length_take]; omega
  rcases h with ⟨rfl, rfl⟩ | ⟨g, off, cap, rfl, h1, hr, hg⟩
  · simp only [List.length_nil] at h2
    have hk : k = 0 := by omega
    subst hk
    exact ⟨none, 0, fun wx => by go_simp, .inl ⟨rfl, rfl⟩⟩
  · by_cases hc : cap = 0
    · subst hc
      have hk : k = 0 := by omega
      subst hk
      refine ⟨some ⟨g, off, none⟩, 0, fun wx => ?_, .inr ⟨g, off, 0, by simp, by simp, fun j u hj => by simp [C] at hj, hg⟩⟩
      go_simp
    · refine ⟨some ⟨g, off, none⟩, cap, fun wx => ?_, .inr ⟨g, off, cap, by rw [hl], by rw [hl]; omega, fun j u hj => ?_, hg⟩⟩
      · have hkc : (k : Int) ≤ (cap : Int) := by omega
        go_simp
      · refine hr j u ?_
        have e : C o = C (o.take k) ++ C (o.drop k) := by rw [← C_append, List.take_append_drop]
        rw [e, List.getElem?_append_left (List.getElem?_eq_some_iff.1 hj).1]
        exact hj

theorem C_set : ∀ (o : List Cp) (i : Nat) (c : Cp), i < o.length → C (o.set i c) = (((C o).set (i * 3) (.int .i64 c.k)).set (i * 3 + 1) (.int .i64 c.n)).set (i * 3 + 2) (.string c.s)
  | [], i, c, h => by simp at h
  | d :: o, 0, c, h => by simp [C_cons, Cp.vals]
  | d :: o, i + 1, c, h => by
    rw [List.set_cons_succ, C_cons, C_set o i c (by simpa using h), C_cons]
    have e : ∀ (x : List Value) (n : Nat) (v : Value), (d.vals ++ x).set ((i + 1) * 3 + n) v = d.vals ++ x.set (i * 3 + n) v := by
      intro x n v
      rw [List.set_append_right _ _ (by simp [Cp.vals]; omega)]
      congr 2
      simp [Cp.vals]; omega
    have e0 := e (C o) 0 (.int .i64 c.k)
    simp only [Nat.add_zero] at e0
    rw [e0, e, e]

theorem set_take (xs : List Value) (n j : Nat) (v : Value) : (xs.set j v).take n = (xs.take n).set j v := List.take_set

/-- A part stored into a slice of the call's own. -/
theorem HasC.store {w : World} {Bd g cap : Nat} {o : List Cp} (h : HasC w Bd (.slice (some ⟨g, 0, none⟩) o.length cap) o) (i : Nat) (c : Cp) (hi : i < o.length) :
    HasC (((w.setCell ⟨g, i * 3, none⟩ (.int .i64 c.k)).setCell ⟨g, i * 3 + 1, none⟩ (.int .i64 c.n)).setCell ⟨g, i * 3 + 2, none⟩ (.string c.s)) Bd (.slice (some ⟨g, 0, none⟩) o.length cap) (o.set i c) := by
  rcases h with ⟨h, _⟩ | ⟨g', cap', cur, e, h1, h2, h3, h4, h5, h6⟩
  · cases h
  · injection e with e1 e2 e3
    injection e1 with e1
    injection e1 with e1
    subst e1 e3
    have hB : Blk w 29 g cur.toList := by unfold Blk; rw [h4]
    have hB3 := ((hB.setCell (i * 3) (.int .i64 c.k)).setCell (i * 3 + 1) (.int .i64 c.n)).setCell (i * 3 + 2) (.string c.s)
    refine .inr ⟨g, cap, _, by rw [List.length_set], h1, by rw [C_length], by rw [List.length_set]; exact h3, hB3, by simpa using h5, ?_⟩
    rw [List.length_set, C_set o i c hi, ← h6]
    simp only [set_take]

theorem HasC.spot {w : World} {Bd : Nat} {v : Value} {o : List Cp} (h : HasC w Bd v o) (h0 : 0 < o.length) : ∃ g cap, v = .slice (some ⟨g, 0, none⟩) o.length cap ∧ Bd ≤ g ∧ o.length ≤ cap ∧ (∀ j, w.frozen? ⟨g, j, none⟩ = false) ∧ g < w.heap.size := by
  rcases h with ⟨_, h, _⟩ | ⟨g, cap, cur, e, h1, h2, h3, h4, h5, h6⟩
  · omega
  · exact ⟨g, cap, e, h1, h3, fun j => by simp [World.frozen?, h4], (Array.getElem?_eq_some_iff.1 h4).1⟩

theorem set_ne {o : List Cp} {i : Nat} {c c2 : Cp} (hc : o[i]? = some c) (hne : c ≠ c2) : o ≠ o.set i c2 := fun h => by
  have h1 := congrArg (fun l : List Cp => l[i]?) h
  have hi := (List.getElem?_eq_some_iff.1 hc).1
  simp only [hc, List.getElem?_set_self hi, Option.some.injEq] at h1
  exact hne h1
/-- Parts that are built behind one new block. -/
theorem new2 (w : World) (ob : Obj) (q : List Cp) (n : Nat) (hn : q.length = n) (Bd : Nat) (hB : Bd ≤ w.heap.size) : HasC ((w.alloc ob).alloc (.cells (C q).toArray 29)) Bd (.slice (some ⟨w.heap.size + 1, 0, none⟩) n n) q := by
  have := (parts_new (w.alloc ob) q n hn).mono (B2 := Bd) (by simp; omega)
  rwa [show (w.alloc ob).heap.size = w.heap.size + 1 by simp] at this
theorem empty_new (w : World) : HasC (w.alloc (.cells #[] 29)) w.heap.size (.slice (some ⟨w.heap.size, 0, none⟩) 0 0) [] := parts_new w [] 0 rfl

set_option maxRecDepth 100000 in
set_option maxHeartbeats 8000000 in
theorem sames_any (n : Int) (an : Option Addr) (len capn : Nat) (at0 : Int) (w : World) (hns : NS w an len) (hcn : len ≤ capn) (hln : len ≤ 9223372036854775807) :
    Calls Try.prog 3 #[.int .i64 n, .slice an len capn, .int .i64 at0] w fun e w' => e = .returned (.bool true) ∧ Below w.heap.size w w' := by
  have HNS := hid hns
  clear hns
  go_enter Try.func3, Try.ntmps3
  go_wp2_with fail
  refine (known_any _).mono ?_
  rintro _ w1 ⟨rfl, hb1⟩
  have Hb1 := hid hb1
  clear hb1
  go_wp2_with fail
  refine (within_any n 90 (by omega) (by omega) _).mono ?_
  rintro _ w1 ⟨rfl, rfl⟩
  obtain ⟨q, hq⟩ : ∃ q : Nat, n % 90 + 1 = (q : Int) := Int.eq_ofNat_of_zero_le (by omega)
  have hq1 : q ≤ 100 := by omega
  have hq0 : 1 ≤ q := by omega
  rw [show n % 90 = (q : Int) - 1 by omega]
  have eq : (1 : Int) + ((q : Int) - 1) = (q : Int) := by omega
  clear hq
  go_wp2_with fail
  refine (Make_any q hq1 an len capn _ (HNS.out.later Hb1.out) hcn hln).mono ?_
  rintro _ w3 ⟨v, rfl, o, hH, hb3, hM⟩
  have hol : o.length ≤ 14 := hM.len
  have ho0 : 0 < o.length := by
    rcases Nat.eq_zero_or_pos o.length with h | h
    · have := List.eq_nil_of_length_eq_zero h
      subst this
      have := hM.ins
      simp [inS] at this
      omega
    · exact h
  obtain ⟨av, cv, rfl⟩ := hH.form
  have Hb3 := hid (below_seq Hb1.out hb3)
  have HH := hid hH
  have HMd := hid hM
  have hs3 := Hb3.out.size
  clear hb3 hH hM eq
  go_wp2_with (at_builtin; go_must (refine wpList_append_c rfl _ _ rfl w3.heap.size _ [] rfl (empty_new w3) ?hs _ o rfl (HH.out.reads.later ((Below.refl _ _).alloc (Nat.le_refl _) _)) ?hb ?_))
  case hs => simp
  case hb => simp; omega
  intro vx w4 hX hb4
  obtain ⟨gx, cx, rfl, hgx, hcx, hfx, hgl⟩ := hX.spot ho0
  have HX := hid hX
  have Hb4 := hid (show Below w3.heap.size w3 w4 from ((Below.refl _ _).alloc (Nat.le_refl _) _).trans hb4)
  clear hX hb4
  go_wp2_with fail
  refine (within_any at0 (o.length : Int) (by omega) (by omega) _).mono ?_
  rintro _ w4 ⟨rfl, rfl⟩
  obtain ⟨i, hi⟩ : ∃ i : Nat, at0 % (o.length : Int) = (i : Int) := Int.eq_ofNat_of_zero_le (Int.emod_nonneg _ (by omega))
  have hil : (i : Int) < (o.length : Int) := by rw [← hi]; exact Int.emod_lt_of_pos _ (by omega)
  rw [hi]
  clear hi
  obtain ⟨c, hc⟩ : ∃ c, o[i]? = some c := ⟨_, List.getElem?_eq_getElem (by omega)⟩
  have hcv := HMd.out.vals c (List.mem_of_getElem? hc)
  have hr0 : w4.rangeAt gx 0 (C o) := fun j u hj => by rw [Nat.zero_add]; exact HasK.cell HX.out hj
  obtain ⟨c0, c1, c2⟩ := RC.cells hr0 hc
  simp only [Nat.zero_add] at c0 c1 c2
  have HC := hid hc
  clear hr0 hc
  have HF := hid hfx
  have fx := fun j => HF.out (i * 3 + j)
  have f0 : w4.frozen? ⟨gx, i * 3, none⟩ = false := HF.out _
  have f1 : w4.frozen? ⟨gx, i * 3 + 1, none⟩ = false := HF.out _
  have f2 : w4.frozen? ⟨gx, i * 3 + 2, none⟩ = false := HF.out _
  clear hfx fx HF
  obtain ⟨ck, cn, cs⟩ := c
  simp only [Cp.Val] at hcv c0 c1 c2
  rcases hcv with ⟨hk, hn1, hn2, hs0⟩ | ⟨hk, hn0, hs1, hs2⟩
  · by_cases hgt : 1 < cn
    · rcases hk with hk | hk
      · subst hk
        have HXs := hid (show HasC (((w4.setCell ⟨gx, i * 3, none⟩ (.int .i64 (1))).setCell ⟨gx, i * 3 + 1, none⟩ (.int .i64 (cn - 1))).setCell ⟨gx, i * 3 + 2, none⟩ (.string cs)) w3.heap.size (.slice (some ⟨gx, 0, none⟩) o.length cx) (o.set i (⟨1, cn - 1, cs⟩ : Cp)) from HX.out.store i (⟨1, cn - 1, cs⟩ : Cp) (by omega))
        have HbW := hid (show Below w3.heap.size w3 (((w4.setCell ⟨gx, i * 3, none⟩ (.int .i64 (1))).setCell ⟨gx, i * 3 + 1, none⟩ (.int .i64 (cn - 1))).setCell ⟨gx, i * 3 + 2, none⟩ (.string cs)) from ((Hb4.out.setCell (p := ⟨gx, i * 3, none⟩) hgx _).setCell (p := ⟨gx, i * 3 + 1, none⟩) hgx _).setCell (p := ⟨gx, i * 3 + 2, none⟩) hgx _)
        have HNE := hid (sameL_ne (set_ne HC.out (c2 := (⟨1, cn - 1, cs⟩ : Cp)) (by intro h; injection h with h1 h2 h3; omega)))
        have hsW : (((w4.setCell ⟨gx, i * 3, none⟩ (.int .i64 (1))).setCell ⟨gx, i * 3 + 1, none⟩ (.int .i64 (cn - 1))).setCell ⟨gx, i * 3 + 2, none⟩ (.string cs)).heap.size = w4.heap.size := by simp
        have HsW := hid hsW
        have HbE := hid (show Below (((w4.setCell ⟨gx, i * 3, none⟩ (.int .i64 (1))).setCell ⟨gx, i * 3 + 1, none⟩ (.int .i64 (cn - 1))).setCell ⟨gx, i * 3 + 2, none⟩ (.string cs)).heap.size (((w4.setCell ⟨gx, i * 3, none⟩ (.int .i64 (1))).setCell ⟨gx, i * 3 + 1, none⟩ (.int .i64 (cn - 1))).setCell ⟨gx, i * 3 + 2, none⟩ (.string cs)) (((((w4.setCell ⟨gx, i * 3, none⟩ (.int .i64 (1))).setCell ⟨gx, i * 3 + 1, none⟩ (.int .i64 (cn - 1))).setCell ⟨gx, i * 3 + 2, none⟩ (.string cs)).alloc (.cells #[.int .i64 (1), .int .i64 (cn - 1), .string cs] 29)).alloc (.cells #[] 29)) from ((Below.refl _ _).alloc (Nat.le_refl _) _).alloc (by simp) _)
        have HEm := hid (show HasC (((((w4.setCell ⟨gx, i * 3, none⟩ (.int .i64 (1))).setCell ⟨gx, i * 3 + 1, none⟩ (.int .i64 (cn - 1))).setCell ⟨gx, i * 3 + 2, none⟩ (.string cs)).alloc (.cells #[.int .i64 (1), .int .i64 (cn - 1), .string cs] 29)).alloc (.cells #[] 29)) w4.heap.size (.slice (some ⟨w4.heap.size + 1, 0, none⟩) 0 0) [] by
          have h := new2 (((w4.setCell ⟨gx, i * 3, none⟩ (.int .i64 (1))).setCell ⟨gx, i * 3 + 1, none⟩ (.int .i64 (cn - 1))).setCell ⟨gx, i * 3 + 2, none⟩ (.string cs)) (.cells #[.int .i64 (1), .int .i64 (cn - 1), .string cs] 29) [] 0 rfl w4.heap.size (by rw [hsW]; exact Nat.le_refl _)
          rw [hsW] at h
          exact h)
        clear hsW HX
        go_wp2_with (at_builtin; go_must (refine wpList_append_c rfl _ _ rfl w4.heap.size _ [] rfl HEm.out ?hs _ o rfl (HH.out.reads.later (below_seq HbW.out HbE.out)) ?hb ?_))
        case hs => simp; omega
        case hb => simp; omega
        intro v6 w6 hH6 hb6
        obtain ⟨a6, c6, rfl⟩ := hH6.form
        have H6 := hid hH6
        have HbF := hid (show Below (((w4.setCell ⟨gx, i * 3, none⟩ (.int .i64 (1))).setCell ⟨gx, i * 3 + 1, none⟩ (.int .i64 (cn - 1))).setCell ⟨gx, i * 3 + 2, none⟩ (.string cs)).heap.size (((w4.setCell ⟨gx, i * 3, none⟩ (.int .i64 (1))).setCell ⟨gx, i * 3 + 1, none⟩ (.int .i64 (cn - 1))).setCell ⟨gx, i * 3 + 2, none⟩ (.string cs)) w6 from HbE.out.trans (by rw [HsW.out]; exact hb6))
        have Hx6 := hid (HXs.out.later HbF.out)
        have Ho6 := hid (HH.out.later (below_seq HbW.out HbF.out))
        have Hb6 := hid (below_seq Hb3.out (below_seq HbW.out HbF.out))
        clear hH6 hb6 HEm HbE HXs HbW HsW HbF c0 c1 c2 f0 f1 f2
        go_wp2_with fail
        refine (Same_any _ _ o o _ Ho6.out.reads H6.out.reads (by omega) (by omega)).mono ?_
        rintro _ w7 ⟨rfl, hb7⟩
        rw [sameL_self]
        have Hx7 := hid (Hx6.out.later hb7)
        have Ho7 := hid (Ho6.out.later hb7)
        have Hb7 := hid (below_seq Hb6.out hb7)
        clear hb7 H6 Hx6 Ho6
        go_wp2_with fail
        refine (Same_any _ _ o (o.set i (⟨1, cn - 1, cs⟩ : Cp)) _ Ho7.out.reads Hx7.out.reads (by omega) (by rw [List.length_set]; omega)).mono ?_
        rintro _ w8 ⟨rfl, hb8⟩
        rw [HNE.out]
        have Ho8 := hid (Ho7.out.later hb8)
        have Hb8 := hid (below_seq Hb7.out hb8)
        clear hb8 Hx7 Ho7
        obtain ⟨af, cf, hcut, hrc⟩ := cut_front Ho8.out.reads (o.length - 1) (by omega) ((o.length : Int) - 1) (by omega)
        have HRC := hid hrc
        clear hrc
        go_wp2_with fail
        refine (Same_any _ _ o (o.take (o.length - 1)) _ Ho8.out.reads HRC.out (by omega) (by rw [List.length_take]; omega)).mono ?_
        rintro _ w9 ⟨rfl, hb9⟩
        rw [sameL_len (by rw [List.length_take]; omega)]
        have Hb9 := hid (below_seq Hb8.out hb9)
        clear hb9 HRC hcut
        go_wp2_with fail
        go_ret
        exact ⟨rfl, Hb9.out⟩
      · subst hk
        have HXs := hid (show HasC (((w4.setCell ⟨gx, i * 3, none⟩ (.int .i64 (3))).setCell ⟨gx, i * 3 + 1, none⟩ (.int .i64 (cn - 1))).setCell ⟨gx, i * 3 + 2, none⟩ (.string cs)) w3.heap.size (.slice (some ⟨gx, 0, none⟩) o.length cx) (o.set i (⟨3, cn - 1, cs⟩ : Cp)) from HX.out.store i (⟨3, cn - 1, cs⟩ : Cp) (by omega))
        have HbW := hid (show Below w3.heap.size w3 (((w4.setCell ⟨gx, i * 3, none⟩ (.int .i64 (3))).setCell ⟨gx, i * 3 + 1, none⟩ (.int .i64 (cn - 1))).setCell ⟨gx, i * 3 + 2, none⟩ (.string cs)) from ((Hb4.out.setCell (p := ⟨gx, i * 3, none⟩) hgx _).setCell (p := ⟨gx, i * 3 + 1, none⟩) hgx _).setCell (p := ⟨gx, i * 3 + 2, none⟩) hgx _)
        have HNE := hid (sameL_ne (set_ne HC.out (c2 := (⟨3, cn - 1, cs⟩ : Cp)) (by intro h; injection h with h1 h2 h3; omega)))
        have hsW : (((w4.setCell ⟨gx, i * 3, none⟩ (.int .i64 (3))).setCell ⟨gx, i * 3 + 1, none⟩ (.int .i64 (cn - 1))).setCell ⟨gx, i * 3 + 2, none⟩ (.string cs)).heap.size = w4.heap.size := by simp
        have HsW := hid hsW
        have HbE := hid (show Below (((w4.setCell ⟨gx, i * 3, none⟩ (.int .i64 (3))).setCell ⟨gx, i * 3 + 1, none⟩ (.int .i64 (cn - 1))).setCell ⟨gx, i * 3 + 2, none⟩ (.string cs)).heap.size (((w4.setCell ⟨gx, i * 3, none⟩ (.int .i64 (3))).setCell ⟨gx, i * 3 + 1, none⟩ (.int .i64 (cn - 1))).setCell ⟨gx, i * 3 + 2, none⟩ (.string cs)) (((((w4.setCell ⟨gx, i * 3, none⟩ (.int .i64 (3))).setCell ⟨gx, i * 3 + 1, none⟩ (.int .i64 (cn - 1))).setCell ⟨gx, i * 3 + 2, none⟩ (.string cs)).alloc (.cells #[.int .i64 (3), .int .i64 (cn - 1), .string cs] 29)).alloc (.cells #[] 29)) from ((Below.refl _ _).alloc (Nat.le_refl _) _).alloc (by simp) _)
        have HEm := hid (show HasC (((((w4.setCell ⟨gx, i * 3, none⟩ (.int .i64 (3))).setCell ⟨gx, i * 3 + 1, none⟩ (.int .i64 (cn - 1))).setCell ⟨gx, i * 3 + 2, none⟩ (.string cs)).alloc (.cells #[.int .i64 (3), .int .i64 (cn - 1), .string cs] 29)).alloc (.cells #[] 29)) w4.heap.size (.slice (some ⟨w4.heap.size + 1, 0, none⟩) 0 0) [] by
          have h := new2 (((w4.setCell ⟨gx, i * 3, none⟩ (.int .i64 (3))).setCell ⟨gx, i * 3 + 1, none⟩ (.int .i64 (cn - 1))).setCell ⟨gx, i * 3 + 2, none⟩ (.string cs)) (.cells #[.int .i64 (3), .int .i64 (cn - 1), .string cs] 29) [] 0 rfl w4.heap.size (by rw [hsW]; exact Nat.le_refl _)
          rw [hsW] at h
          exact h)
        clear hsW HX
        go_wp2_with (at_builtin; go_must (refine wpList_append_c rfl _ _ rfl w4.heap.size _ [] rfl HEm.out ?hs _ o rfl (HH.out.reads.later (below_seq HbW.out HbE.out)) ?hb ?_))
        case hs => simp; omega
        case hb => simp; omega
        intro v6 w6 hH6 hb6
        obtain ⟨a6, c6, rfl⟩ := hH6.form
        have H6 := hid hH6
        have HbF := hid (show Below (((w4.setCell ⟨gx, i * 3, none⟩ (.int .i64 (3))).setCell ⟨gx, i * 3 + 1, none⟩ (.int .i64 (cn - 1))).setCell ⟨gx, i * 3 + 2, none⟩ (.string cs)).heap.size (((w4.setCell ⟨gx, i * 3, none⟩ (.int .i64 (3))).setCell ⟨gx, i * 3 + 1, none⟩ (.int .i64 (cn - 1))).setCell ⟨gx, i * 3 + 2, none⟩ (.string cs)) w6 from HbE.out.trans (by rw [HsW.out]; exact hb6))
        have Hx6 := hid (HXs.out.later HbF.out)
        have Ho6 := hid (HH.out.later (below_seq HbW.out HbF.out))
        have Hb6 := hid (below_seq Hb3.out (below_seq HbW.out HbF.out))
        clear hH6 hb6 HEm HbE HXs HbW HsW HbF c0 c1 c2 f0 f1 f2
        go_wp2_with fail
        refine (Same_any _ _ o o _ Ho6.out.reads H6.out.reads (by omega) (by omega)).mono ?_
        rintro _ w7 ⟨rfl, hb7⟩
        rw [sameL_self]
        have Hx7 := hid (Hx6.out.later hb7)
        have Ho7 := hid (Ho6.out.later hb7)
        have Hb7 := hid (below_seq Hb6.out hb7)
        clear hb7 H6 Hx6 Ho6
        go_wp2_with fail
        refine (Same_any _ _ o (o.set i (⟨3, cn - 1, cs⟩ : Cp)) _ Ho7.out.reads Hx7.out.reads (by omega) (by rw [List.length_set]; omega)).mono ?_
        rintro _ w8 ⟨rfl, hb8⟩
        rw [HNE.out]
        have Ho8 := hid (Ho7.out.later hb8)
        have Hb8 := hid (below_seq Hb7.out hb8)
        clear hb8 Hx7 Ho7
        obtain ⟨af, cf, hcut, hrc⟩ := cut_front Ho8.out.reads (o.length - 1) (by omega) ((o.length : Int) - 1) (by omega)
        have HRC := hid hrc
        clear hrc
        go_wp2_with fail
        refine (Same_any _ _ o (o.take (o.length - 1)) _ Ho8.out.reads HRC.out (by omega) (by rw [List.length_take]; omega)).mono ?_
        rintro _ w9 ⟨rfl, hb9⟩
        rw [sameL_len (by rw [List.length_take]; omega)]
        have Hb9 := hid (below_seq Hb8.out hb9)
        clear hb9 HRC hcut
        go_wp2_with fail
        go_ret
        exact ⟨rfl, Hb9.out⟩
    · have hle : ¬ 1 < cn := hgt
      rcases hk with hk | hk
      · subst hk
        have HXs := hid (show HasC (((w4.setCell ⟨gx, i * 3, none⟩ (.int .i64 (3))).setCell ⟨gx, i * 3 + 1, none⟩ (.int .i64 (cn))).setCell ⟨gx, i * 3 + 2, none⟩ (.string cs)) w3.heap.size (.slice (some ⟨gx, 0, none⟩) o.length cx) (o.set i (⟨3, cn, cs⟩ : Cp)) from HX.out.store i (⟨3, cn, cs⟩ : Cp) (by omega))
        have HbW := hid (show Below w3.heap.size w3 (((w4.setCell ⟨gx, i * 3, none⟩ (.int .i64 (3))).setCell ⟨gx, i * 3 + 1, none⟩ (.int .i64 (cn))).setCell ⟨gx, i * 3 + 2, none⟩ (.string cs)) from ((Hb4.out.setCell (p := ⟨gx, i * 3, none⟩) hgx _).setCell (p := ⟨gx, i * 3 + 1, none⟩) hgx _).setCell (p := ⟨gx, i * 3 + 2, none⟩) hgx _)
        have HNE := hid (sameL_ne (set_ne HC.out (c2 := (⟨3, cn, cs⟩ : Cp)) (by intro h; injection h with h1 h2 h3; omega)))
        have hsW : (((w4.setCell ⟨gx, i * 3, none⟩ (.int .i64 (3))).setCell ⟨gx, i * 3 + 1, none⟩ (.int .i64 (cn))).setCell ⟨gx, i * 3 + 2, none⟩ (.string cs)).heap.size = w4.heap.size := by simp
        have HsW := hid hsW
        have HbE := hid (show Below (((w4.setCell ⟨gx, i * 3, none⟩ (.int .i64 (3))).setCell ⟨gx, i * 3 + 1, none⟩ (.int .i64 (cn))).setCell ⟨gx, i * 3 + 2, none⟩ (.string cs)).heap.size (((w4.setCell ⟨gx, i * 3, none⟩ (.int .i64 (3))).setCell ⟨gx, i * 3 + 1, none⟩ (.int .i64 (cn))).setCell ⟨gx, i * 3 + 2, none⟩ (.string cs)) (((((w4.setCell ⟨gx, i * 3, none⟩ (.int .i64 (3))).setCell ⟨gx, i * 3 + 1, none⟩ (.int .i64 (cn))).setCell ⟨gx, i * 3 + 2, none⟩ (.string cs)).alloc (.cells #[.int .i64 (3), .int .i64 (cn), .string cs] 29)).alloc (.cells #[] 29)) from ((Below.refl _ _).alloc (Nat.le_refl _) _).alloc (by simp) _)
        have HEm := hid (show HasC (((((w4.setCell ⟨gx, i * 3, none⟩ (.int .i64 (3))).setCell ⟨gx, i * 3 + 1, none⟩ (.int .i64 (cn))).setCell ⟨gx, i * 3 + 2, none⟩ (.string cs)).alloc (.cells #[.int .i64 (3), .int .i64 (cn), .string cs] 29)).alloc (.cells #[] 29)) w4.heap.size (.slice (some ⟨w4.heap.size + 1, 0, none⟩) 0 0) [] by
          have h := new2 (((w4.setCell ⟨gx, i * 3, none⟩ (.int .i64 (3))).setCell ⟨gx, i * 3 + 1, none⟩ (.int .i64 (cn))).setCell ⟨gx, i * 3 + 2, none⟩ (.string cs)) (.cells #[.int .i64 (3), .int .i64 (cn), .string cs] 29) [] 0 rfl w4.heap.size (by rw [hsW]; exact Nat.le_refl _)
          rw [hsW] at h
          exact h)
        clear hsW HX
        go_wp2_with (at_builtin; go_must (refine wpList_append_c rfl _ _ rfl w4.heap.size _ [] rfl HEm.out ?hs _ o rfl (HH.out.reads.later (below_seq HbW.out HbE.out)) ?hb ?_))
        case hs => simp; omega
        case hb => simp; omega
        intro v6 w6 hH6 hb6
        obtain ⟨a6, c6, rfl⟩ := hH6.form
        have H6 := hid hH6
        have HbF := hid (show Below (((w4.setCell ⟨gx, i * 3, none⟩ (.int .i64 (3))).setCell ⟨gx, i * 3 + 1, none⟩ (.int .i64 (cn))).setCell ⟨gx, i * 3 + 2, none⟩ (.string cs)).heap.size (((w4.setCell ⟨gx, i * 3, none⟩ (.int .i64 (3))).setCell ⟨gx, i * 3 + 1, none⟩ (.int .i64 (cn))).setCell ⟨gx, i * 3 + 2, none⟩ (.string cs)) w6 from HbE.out.trans (by rw [HsW.out]; exact hb6))
        have Hx6 := hid (HXs.out.later HbF.out)
        have Ho6 := hid (HH.out.later (below_seq HbW.out HbF.out))
        have Hb6 := hid (below_seq Hb3.out (below_seq HbW.out HbF.out))
        clear hH6 hb6 HEm HbE HXs HbW HsW HbF c0 c1 c2 f0 f1 f2
        go_wp2_with fail
        refine (Same_any _ _ o o _ Ho6.out.reads H6.out.reads (by omega) (by omega)).mono ?_
        rintro _ w7 ⟨rfl, hb7⟩
        rw [sameL_self]
        have Hx7 := hid (Hx6.out.later hb7)
        have Ho7 := hid (Ho6.out.later hb7)
        have Hb7 := hid (below_seq Hb6.out hb7)
        clear hb7 H6 Hx6 Ho6
        go_wp2_with fail
        refine (Same_any _ _ o (o.set i (⟨3, cn, cs⟩ : Cp)) _ Ho7.out.reads Hx7.out.reads (by omega) (by rw [List.length_set]; omega)).mono ?_
        rintro _ w8 ⟨rfl, hb8⟩
        rw [HNE.out]
        have Ho8 := hid (Ho7.out.later hb8)
        have Hb8 := hid (below_seq Hb7.out hb8)
        clear hb8 Hx7 Ho7
        obtain ⟨af, cf, hcut, hrc⟩ := cut_front Ho8.out.reads (o.length - 1) (by omega) ((o.length : Int) - 1) (by omega)
        have HRC := hid hrc
        clear hrc
        go_wp2_with fail
        refine (Same_any _ _ o (o.take (o.length - 1)) _ Ho8.out.reads HRC.out (by omega) (by rw [List.length_take]; omega)).mono ?_
        rintro _ w9 ⟨rfl, hb9⟩
        rw [sameL_len (by rw [List.length_take]; omega)]
        have Hb9 := hid (below_seq Hb8.out hb9)
        clear hb9 HRC hcut
        go_wp2_with fail
        go_ret
        exact ⟨rfl, Hb9.out⟩
      · subst hk
        have HXs := hid (show HasC (((w4.setCell ⟨gx, i * 3, none⟩ (.int .i64 (1))).setCell ⟨gx, i * 3 + 1, none⟩ (.int .i64 (cn))).setCell ⟨gx, i * 3 + 2, none⟩ (.string cs)) w3.heap.size (.slice (some ⟨gx, 0, none⟩) o.length cx) (o.set i (⟨1, cn, cs⟩ : Cp)) from HX.out.store i (⟨1, cn, cs⟩ : Cp) (by omega))
        have HbW := hid (show Below w3.heap.size w3 (((w4.setCell ⟨gx, i * 3, none⟩ (.int .i64 (1))).setCell ⟨gx, i * 3 + 1, none⟩ (.int .i64 (cn))).setCell ⟨gx, i * 3 + 2, none⟩ (.string cs)) from ((Hb4.out.setCell (p := ⟨gx, i * 3, none⟩) hgx _).setCell (p := ⟨gx, i * 3 + 1, none⟩) hgx _).setCell (p := ⟨gx, i * 3 + 2, none⟩) hgx _)
        have HNE := hid (sameL_ne (set_ne HC.out (c2 := (⟨1, cn, cs⟩ : Cp)) (by intro h; injection h with h1 h2 h3; omega)))
        have hsW : (((w4.setCell ⟨gx, i * 3, none⟩ (.int .i64 (1))).setCell ⟨gx, i * 3 + 1, none⟩ (.int .i64 (cn))).setCell ⟨gx, i * 3 + 2, none⟩ (.string cs)).heap.size = w4.heap.size := by simp
        have HsW := hid hsW
        have HbE := hid (show Below (((w4.setCell ⟨gx, i * 3, none⟩ (.int .i64 (1))).setCell ⟨gx, i * 3 + 1, none⟩ (.int .i64 (cn))).setCell ⟨gx, i * 3 + 2, none⟩ (.string cs)).heap.size (((w4.setCell ⟨gx, i * 3, none⟩ (.int .i64 (1))).setCell ⟨gx, i * 3 + 1, none⟩ (.int .i64 (cn))).setCell ⟨gx, i * 3 + 2, none⟩ (.string cs)) (((((w4.setCell ⟨gx, i * 3, none⟩ (.int .i64 (1))).setCell ⟨gx, i * 3 + 1, none⟩ (.int .i64 (cn))).setCell ⟨gx, i * 3 + 2, none⟩ (.string cs)).alloc (.cells #[.int .i64 (1), .int .i64 (cn), .string cs] 29)).alloc (.cells #[] 29)) from ((Below.refl _ _).alloc (Nat.le_refl _) _).alloc (by simp) _)
        have HEm := hid (show HasC (((((w4.setCell ⟨gx, i * 3, none⟩ (.int .i64 (1))).setCell ⟨gx, i * 3 + 1, none⟩ (.int .i64 (cn))).setCell ⟨gx, i * 3 + 2, none⟩ (.string cs)).alloc (.cells #[.int .i64 (1), .int .i64 (cn), .string cs] 29)).alloc (.cells #[] 29)) w4.heap.size (.slice (some ⟨w4.heap.size + 1, 0, none⟩) 0 0) [] by
          have h := new2 (((w4.setCell ⟨gx, i * 3, none⟩ (.int .i64 (1))).setCell ⟨gx, i * 3 + 1, none⟩ (.int .i64 (cn))).setCell ⟨gx, i * 3 + 2, none⟩ (.string cs)) (.cells #[.int .i64 (1), .int .i64 (cn), .string cs] 29) [] 0 rfl w4.heap.size (by rw [hsW]; exact Nat.le_refl _)
          rw [hsW] at h
          exact h)
        clear hsW HX
        go_wp2_with (at_builtin; go_must (refine wpList_append_c rfl _ _ rfl w4.heap.size _ [] rfl HEm.out ?hs _ o rfl (HH.out.reads.later (below_seq HbW.out HbE.out)) ?hb ?_))
        case hs => simp; omega
        case hb => simp; omega
        intro v6 w6 hH6 hb6
        obtain ⟨a6, c6, rfl⟩ := hH6.form
        have H6 := hid hH6
        have HbF := hid (show Below (((w4.setCell ⟨gx, i * 3, none⟩ (.int .i64 (1))).setCell ⟨gx, i * 3 + 1, none⟩ (.int .i64 (cn))).setCell ⟨gx, i * 3 + 2, none⟩ (.string cs)).heap.size (((w4.setCell ⟨gx, i * 3, none⟩ (.int .i64 (1))).setCell ⟨gx, i * 3 + 1, none⟩ (.int .i64 (cn))).setCell ⟨gx, i * 3 + 2, none⟩ (.string cs)) w6 from HbE.out.trans (by rw [HsW.out]; exact hb6))
        have Hx6 := hid (HXs.out.later HbF.out)
        have Ho6 := hid (HH.out.later (below_seq HbW.out HbF.out))
        have Hb6 := hid (below_seq Hb3.out (below_seq HbW.out HbF.out))
        clear hH6 hb6 HEm HbE HXs HbW HsW HbF c0 c1 c2 f0 f1 f2
        go_wp2_with fail
        refine (Same_any _ _ o o _ Ho6.out.reads H6.out.reads (by omega) (by omega)).mono ?_
        rintro _ w7 ⟨rfl, hb7⟩
        rw [sameL_self]
        have Hx7 := hid (Hx6.out.later hb7)
        have Ho7 := hid (Ho6.out.later hb7)
        have Hb7 := hid (below_seq Hb6.out hb7)
        clear hb7 H6 Hx6 Ho6
        go_wp2_with fail
        refine (Same_any _ _ o (o.set i (⟨1, cn, cs⟩ : Cp)) _ Ho7.out.reads Hx7.out.reads (by omega) (by rw [List.length_set]; omega)).mono ?_
        rintro _ w8 ⟨rfl, hb8⟩
        rw [HNE.out]
        have Ho8 := hid (Ho7.out.later hb8)
        have Hb8 := hid (below_seq Hb7.out hb8)
        clear hb8 Hx7 Ho7
        obtain ⟨af, cf, hcut, hrc⟩ := cut_front Ho8.out.reads (o.length - 1) (by omega) ((o.length : Int) - 1) (by omega)
        have HRC := hid hrc
        clear hrc
        go_wp2_with fail
        refine (Same_any _ _ o (o.take (o.length - 1)) _ Ho8.out.reads HRC.out (by omega) (by rw [List.length_take]; omega)).mono ?_
        rintro _ w9 ⟨rfl, hb9⟩
        rw [sameL_len (by rw [List.length_take]; omega)]
        have Hb9 := hid (below_seq Hb8.out hb9)
        clear hb9 HRC hcut
        go_wp2_with fail
        go_ret
        exact ⟨rfl, Hb9.out⟩
  · subst hk
    subst hn0
    have HXs := hid (show HasC (((w4.setCell ⟨gx, i * 3, none⟩ (.int .i64 (2))).setCell ⟨gx, i * 3 + 1, none⟩ (.int .i64 (0))).setCell ⟨gx, i * 3 + 2, none⟩ (.string (cs ++ ⟨#[46]⟩))) w3.heap.size (.slice (some ⟨gx, 0, none⟩) o.length cx) (o.set i (⟨2, 0, (cs ++ ⟨#[46]⟩)⟩ : Cp)) from HX.out.store i (⟨2, 0, (cs ++ ⟨#[46]⟩)⟩ : Cp) (by omega))
    have HbW := hid (show Below w3.heap.size w3 (((w4.setCell ⟨gx, i * 3, none⟩ (.int .i64 (2))).setCell ⟨gx, i * 3 + 1, none⟩ (.int .i64 (0))).setCell ⟨gx, i * 3 + 2, none⟩ (.string (cs ++ ⟨#[46]⟩))) from ((Hb4.out.setCell (p := ⟨gx, i * 3, none⟩) hgx _).setCell (p := ⟨gx, i * 3 + 1, none⟩) hgx _).setCell (p := ⟨gx, i * 3 + 2, none⟩) hgx _)
    have HNE := hid (sameL_ne (set_ne HC.out (c2 := (⟨2, 0, (cs ++ ⟨#[46]⟩)⟩ : Cp)) (by intro h; injection h with h1 h2 h3; have h4 := congrArg ByteArray.size h3; rw [ByteArray.size_append] at h4; have : (⟨#[46]⟩ : ByteArray).size = 1 := rfl; omega)))
    have hsW : (((w4.setCell ⟨gx, i * 3, none⟩ (.int .i64 (2))).setCell ⟨gx, i * 3 + 1, none⟩ (.int .i64 (0))).setCell ⟨gx, i * 3 + 2, none⟩ (.string (cs ++ ⟨#[46]⟩))).heap.size = w4.heap.size := by simp
    have HsW := hid hsW
    have HbE := hid (show Below (((w4.setCell ⟨gx, i * 3, none⟩ (.int .i64 (2))).setCell ⟨gx, i * 3 + 1, none⟩ (.int .i64 (0))).setCell ⟨gx, i * 3 + 2, none⟩ (.string (cs ++ ⟨#[46]⟩))).heap.size (((w4.setCell ⟨gx, i * 3, none⟩ (.int .i64 (2))).setCell ⟨gx, i * 3 + 1, none⟩ (.int .i64 (0))).setCell ⟨gx, i * 3 + 2, none⟩ (.string (cs ++ ⟨#[46]⟩))) (((((w4.setCell ⟨gx, i * 3, none⟩ (.int .i64 (2))).setCell ⟨gx, i * 3 + 1, none⟩ (.int .i64 (0))).setCell ⟨gx, i * 3 + 2, none⟩ (.string (cs ++ ⟨#[46]⟩))).alloc (.cells #[.int .i64 (2), .int .i64 (0), .string (cs ++ ⟨#[46]⟩)] 29)).alloc (.cells #[] 29)) from ((Below.refl _ _).alloc (Nat.le_refl _) _).alloc (by simp) _)
    have HEm := hid (show HasC (((((w4.setCell ⟨gx, i * 3, none⟩ (.int .i64 (2))).setCell ⟨gx, i * 3 + 1, none⟩ (.int .i64 (0))).setCell ⟨gx, i * 3 + 2, none⟩ (.string (cs ++ ⟨#[46]⟩))).alloc (.cells #[.int .i64 (2), .int .i64 (0), .string (cs ++ ⟨#[46]⟩)] 29)).alloc (.cells #[] 29)) w4.heap.size (.slice (some ⟨w4.heap.size + 1, 0, none⟩) 0 0) [] by
      have h := new2 (((w4.setCell ⟨gx, i * 3, none⟩ (.int .i64 (2))).setCell ⟨gx, i * 3 + 1, none⟩ (.int .i64 (0))).setCell ⟨gx, i * 3 + 2, none⟩ (.string (cs ++ ⟨#[46]⟩))) (.cells #[.int .i64 (2), .int .i64 (0), .string (cs ++ ⟨#[46]⟩)] 29) [] 0 rfl w4.heap.size (by rw [hsW]; exact Nat.le_refl _)
      rw [hsW] at h
      exact h)
    clear hsW HX
    go_wp2_with (at_builtin; go_must (refine wpList_append_c rfl _ _ rfl w4.heap.size _ [] rfl HEm.out ?hs _ o rfl (HH.out.reads.later (below_seq HbW.out HbE.out)) ?hb ?_))
    case hs => simp; omega
    case hb => simp; omega
    intro v6 w6 hH6 hb6
    obtain ⟨a6, c6, rfl⟩ := hH6.form
    have H6 := hid hH6
    have HbF := hid (show Below (((w4.setCell ⟨gx, i * 3, none⟩ (.int .i64 (2))).setCell ⟨gx, i * 3 + 1, none⟩ (.int .i64 (0))).setCell ⟨gx, i * 3 + 2, none⟩ (.string (cs ++ ⟨#[46]⟩))).heap.size (((w4.setCell ⟨gx, i * 3, none⟩ (.int .i64 (2))).setCell ⟨gx, i * 3 + 1, none⟩ (.int .i64 (0))).setCell ⟨gx, i * 3 + 2, none⟩ (.string (cs ++ ⟨#[46]⟩))) w6 from HbE.out.trans (by rw [HsW.out]; exact hb6))
    have Hx6 := hid (HXs.out.later HbF.out)
    have Ho6 := hid (HH.out.later (below_seq HbW.out HbF.out))
    have Hb6 := hid (below_seq Hb3.out (below_seq HbW.out HbF.out))
    clear hH6 hb6 HEm HbE HXs HbW HsW HbF c0 c1 c2 f0 f1 f2
    go_wp2_with fail
    refine (Same_any _ _ o o _ Ho6.out.reads H6.out.reads (by omega) (by omega)).mono ?_
    rintro _ w7 ⟨rfl, hb7⟩
    rw [sameL_self]
    have Hx7 := hid (Hx6.out.later hb7)
    have Ho7 := hid (Ho6.out.later hb7)
    have Hb7 := hid (below_seq Hb6.out hb7)
    clear hb7 H6 Hx6 Ho6
    go_wp2_with fail
    refine (Same_any _ _ o (o.set i (⟨2, 0, (cs ++ ⟨#[46]⟩)⟩ : Cp)) _ Ho7.out.reads Hx7.out.reads (by omega) (by rw [List.length_set]; omega)).mono ?_
    rintro _ w8 ⟨rfl, hb8⟩
    rw [HNE.out]
    have Ho8 := hid (Ho7.out.later hb8)
    have Hb8 := hid (below_seq Hb7.out hb8)
    clear hb8 Hx7 Ho7
    obtain ⟨af, cf, hcut, hrc⟩ := cut_front Ho8.out.reads (o.length - 1) (by omega) ((o.length : Int) - 1) (by omega)
    have HRC := hid hrc
    clear hrc
    go_wp2_with fail
    refine (Same_any _ _ o (o.take (o.length - 1)) _ Ho8.out.reads HRC.out (by omega) (by rw [List.length_take]; omega)).mono ?_
    rintro _ w9 ⟨rfl, hb9⟩
    rw [sameL_len (by rw [List.length_take]; omega)]
    have Hb9 := hid (below_seq Hb8.out hb9)
    clear hb9 HRC hcut
    go_wp2_with fail
    go_ret
    exact ⟨rfl, Hb9.out⟩

theorem sames_row (a0 : Int) (a1 : Option Addr) (len1 cap1 : Nat) (z1 : List Int) (a2 : Int) (w : World) (w1 : IsRow .i64 w a1 len1 cap1 z1) :
    Calls Try.prog 3 #[.int .i64 a0, .slice a1 len1 cap1, .int .i64 a2] w fun e w' => e = .returned (.bool true) ∧ Below w.heap.size w w' :=
  sames_any a0 a1 len1 cap1 a2 w (ns_of_row w1) (cap_of_row w1) (len_of_row w1)
end Go.Proofs.Ytmphckpmlkgkkab
