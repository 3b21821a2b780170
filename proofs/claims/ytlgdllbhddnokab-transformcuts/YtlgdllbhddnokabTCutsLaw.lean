/- The law TransformCuts: of two that cut, what either cut is gone, once. -/
import Derived.Test.YtlgdllbhddnokabKnown7
import Derived.Test.YtlgdllbhddnokabObV
import Derived.Test.YtlgdllbhddnokabTaken7
import Derived.Test.YtlgdllbhddnokabText7
import Derived.Deep.DeepCutAuto
namespace Go.Proofs.Ytlgdllbhddnokab
open Go.RowKit
set_option linter.unusedSimpArgs false
set_option linter.unusedVariables false

theorem sel_snoc {α : Type} : ∀ (d : List α) (l : List Bool) (x : α) (f : Bool), d.length = l.length → sel (d ++ [x]) (l ++ [f]) = sel d l ++ (if f then [x] else [])
  | [], [], x, f, _ => by cases f <;> rfl
  | [], _ :: _, _, _, h => by simp at h
  | _ :: _, [], _, _, h => by simp at h
  | y :: d, g :: l, x, f, h => by
    have ih := sel_snoc d l x f (by simpa using h)
    cases g
    · show sel (d ++ [x]) (l ++ [f]) = sel d l ++ _
      exact ih
    · show y :: sel (d ++ [x]) (l ++ [f]) = y :: (sel d l ++ _)
      rw [ih]
theorem zip_map {α : Type} (f g : α → Bool) : ∀ l : List α, List.zipWith (fun p q => p && q) (l.map f) (l.map g) = l.map (fun i => f i && g i)
  | [] => rfl
  | x :: l => by simp only [List.map_cons, List.zipWith_cons_cons, zip_map f g l]
/-- Is a place left by both? -/
def leftB (n a b c d : Int) (i : Nat) : Bool := !inB n a b i && !inB n c d i
/-- What is left of the first j bytes. -/
def wantL (T : List UInt8) (n a b c d : Int) (j : Nat) : List UInt8 := sel (T.take j) ((List.range j).map (leftB n a b c d))
theorem want_succ {T : List UInt8} {j : Nat} {x : UInt8} (h : T[j]? = some x) (n a b c d : Int) : wantL T n a b c d (j + 1) = wantL T n a b c d j ++ (if leftB n a b c d j then [x] else []) := by
  unfold wantL
  rw [take_succ' T j x h, List.range_succ, List.map_append, List.map_cons, List.map_nil, sel_snoc _ _ _ _ (by have := (List.getElem?_eq_some_iff.1 h).1; rw [List.length_take, List.length_map, List.length_range]; omega)]
theorem want_len (T : List UInt8) (n a b c d : Int) : ∀ j : Nat, j ≤ T.length → (wantL T n a b c d j).length ≤ j
  | 0, _ => by simp [wantL, sel]
  | j + 1, h => by
    obtain ⟨x, hx⟩ : ∃ x, T[j]? = some x := ⟨_, List.getElem?_eq_getElem (by omega)⟩
    have ih := want_len T n a b c d j (by omega)
    rw [want_succ hx, List.length_append]
    split <;> simp <;> omega
theorem cuts_want {n a b c d : Int} {k : Nat} {X Y : List Cp} {r : Nat} (h : PX (normS (ones n a b k)) (normS (ones n c d k)) X Y r) (T : List UInt8) (hT : T.length = k) : applyS (applyS T (normS (ones n a b k))) (normS Y) = wantL T n a b c d k := by
  obtain ⟨g1, p1, i1, l1, f1⟩ := ones_all n a b k
  obtain ⟨g2, p2, i2, l2, f2⟩ := ones_all n c d k
  obtain ⟨q1, e1⟩ := norm_flags _ g1 p1
  obtain ⟨q2, e2⟩ := norm_flags _ g2 p2
  have hp := h.pr
  rw [norm_norm, norm_norm] at hp
  have hc := pr_cuts hp (norm_good g1) (norm_good g2) q1 q2 (by rw [in_norm _ g1, in_norm _ g2, i1, i2]) UInt8 id T (by rw [in_norm _ g1, i1, hT])
  rw [act_id, act_id, e1, e2, f1, f2, zip_map] at hc
  rw [(norm_all _ h.pa.gy).2, hc]
  unfold wantL
  rw [List.take_of_length_le (by omega)]
  rfl
theorem want_cat (S : List UInt8) (t : ByteArray) (j : Nat) (x : UInt8) (h : t.data.toList[j]? = some x) : (⟨S.toArray⟩ : ByteArray) ++ t.extract j (j + 1) = ⟨(S ++ [x]).toArray⟩ := by
  apply ByteArray.ext
  apply Array.ext'
  have h1 := ext_list t j (j + 1)
  have h2 : (t.data.toList.drop j).take (j + 1 - j) = [x] := by rw [drop_cons' _ j x h, show j + 1 - j = 1 by omega]; rfl
  rw [h2] at h1
  simp only [ByteArray.data_append, Array.toList_append, h1]

set_option maxRecDepth 100000 in
set_option maxHeartbeats 4000000 in
theorem tcuts_any (n a b c d : Int) (w : World) :
    Calls Try.prog 5 #[.int .i64 n, .int .i64 a, .int .i64 b, .int .i64 c, .int .i64 d] w fun e w' => e = .returned (.bool true) ∧ Below w.heap.size w w' := by
  go_enter Try.func5, Try.ntmps5
  go_wp2_with fail
  refine (known7_any _).mono ?_
  rintro _ w1 ⟨rfl, hb⟩
  have Hb1 := hid hb
  clear hb
  go_upto_region 3 with fail
  go_cut [0] (fun s0 w' => ∃ k : Nat, s0 = .int .i64 (k : Int) ∧ 1 ≤ k ∧ k ≤ 50 ∧ w' = w1)
  case first =>
    go_wp2_with fail
    all_goals
      go_meet
      first
      | exact ⟨1, rfl, by omega, by omega, rfl⟩
      | exact ⟨50, rfl, by omega, by omega, rfl⟩
      | exact ⟨(1 + n.tmod 50).toNat, by rw [Int.toNat_of_nonneg (by omega)], by omega, by omega, rfl⟩
  case rest =>
  obtain ⟨k, rfl, hk1, hk2, rfl⟩ := hcut
  go_wp2_with fail
  replace Hb1 := Hb1
  refine (taken_any k hk1 (by omega) a b _).mono ?_
  rintro _ w2 ⟨vx, ux, rfl, ho, hux, hb⟩
  have Hb2 := hid (below_seq Hb1.out hb)
  have HOx2 := hid ho
  clear hb Hb1 ho
  go_wp2_with fail
  refine (taken_any k hk1 (by omega) c d _).mono ?_
  rintro _ w3 ⟨vy, uy, rfl, ho, huy, hb⟩
  have Hb3 := hid (below_seq Hb2.out hb)
  have HOx3 := hid (HOx2.out.later hb)
  have HOy3 := hid ho
  clear hb Hb2 HOx2 ho
  go_wp2_with fail
  obtain ⟨X, Y, r, hP, hr⟩ := px_ex HOx3.out.good HOy3.out.good (by rw [HOx3.out.ins, HOy3.out.ins])
  rw [HOx3.out.outs, HOy3.out.outs] at hr
  have HP := hid hP
  have hs : r ≤ 400 := by omega
  clear hP
  refine (pair_ob HOx3.out HOy3.out HP.out hs).mono ?_
  rintro _ w4 ⟨vp, vq, rfl, ho, ho2, hb⟩
  have Hb4 := hid (below_seq Hb3.out hb)
  have HOx4 := hid (HOx3.out.later hb)
  have HOy4 := hid (HOy3.out.later hb)
  have HOp4 := hid ho
  have HOq4 := hid ho2
  clear hb Hb3 HOx3 HOy3 ho ho2
  go_wp2_with fail
  refine (text_any k (by omega) _).mono ?_
  rintro _ w5 ⟨tx, rfl, htx, hb⟩
  have HTX := hid htx
  clear htx
  have Hb5 := hid (below_seq Hb4.out hb)
  have HOx5 := hid (HOx4.out.later hb)
  have HOy5 := hid (HOy4.out.later hb)
  have HOp5 := hid (HOp4.out.later hb)
  have HOq5 := hid (HOq4.out.later hb)
  clear hb Hb4 HOx4 HOy4 HOp4 HOq4
  go_wp2_with fail
  refine (apply_ob tx HOx5.out HTX.out (by omega)).mono ?_
  rintro _ wx ⟨rfl, rfl⟩
  have hms := applied_size tx HOx5.out HTX.out
  obtain ⟨mx, hm⟩ : ∃ bz : ByteArray, (⟨(applyS tx.data.toList (normS (ones k a b k))).toArray⟩ : ByteArray) = bz := ⟨_, rfl⟩
  rw [hm] at hms ⊢
  have HMe := hid hm
  have HMS := hid hms
  clear hm hms
  go_wp2_with fail
  refine (apply_ob tx HOy5.out HTX.out (by omega)).mono ?_
  rintro _ wx ⟨rfl, rfl⟩
  have hms := applied_size tx HOy5.out HTX.out
  obtain ⟨my, hm⟩ : ∃ bz : ByteArray, (⟨(applyS tx.data.toList (normS (ones k c d k))).toArray⟩ : ByteArray) = bz := ⟨_, rfl⟩
  rw [hm] at hms ⊢
  have HFe := hid hm
  have HFS := hid hms
  clear hm hms
  go_wp2_with fail
  have HTL := hid (show tx.data.toList.length = k by rw [← HTX.out]; simp)
  have HZ1 := hid (show (⟨(applyS mx.data.toList (normS Y)).toArray⟩ : ByteArray) = ⟨(wantL tx.data.toList k a b c d k).toArray⟩ by
    rw [← HMe.out]
    show (⟨(applyS (applyS tx.data.toList (normS (ones k a b k))) (normS Y)).toArray⟩ : ByteArray) = _
    rw [cuts_want HP.out _ HTL.out])
  have HZ2 := hid (show (⟨(applyS my.data.toList (normS X)).toArray⟩ : ByteArray) = ⟨(wantL tx.data.toList k a b c d k).toArray⟩ by
    rw [← HFe.out]
    show (⟨(applyS (applyS tx.data.toList (normS (ones k c d k))) (normS X)).toArray⟩ : ByteArray) = _
    rw [← HP.out.meets HOx5.out.good HOy5.out.good tx.data.toList (by rw [HOx5.out.ins, HTL.out]), cuts_want HP.out _ HTL.out])
  refine (apply_ob mx HOq5.out HMS.out (by omega)).mono ?_
  rintro _ wx ⟨rfl, rfl⟩
  rw [HZ1.out]
  go_wp2_with fail
  refine (apply_ob my HOp5.out HFS.out (by omega)).mono ?_
  rintro _ wx ⟨rfl, rfl⟩
  rw [HZ2.out]
  obtain ⟨z, hz⟩ : ∃ bz : ByteArray, (⟨(wantL tx.data.toList k a b c d k).toArray⟩ : ByteArray) = bz := ⟨_, rfl⟩
  rw [hz]
  have HZ := hid hz
  clear hz
  go_wp2_with fail
  go_loopw [25, 26] (fun sv iv wr => ∃ j : Nat, j ≤ k ∧ iv = .int .i64 j ∧ sv = .string ⟨(wantL tx.data.toList k a b c d j).toArray⟩ ∧ wr = wx) (fun _ iv _ => k - (intOf iv).toNat)
  case atStart => exact ⟨0, Nat.zero_le _, rfl, rfl, rfl⟩
  case round =>
    obtain ⟨j, hj, rfl, rfl, hwr⟩ := hrel
    subst wr
    by_cases hlt : j < k
    · have hlt' : (j : Int) < (k : Int) := by omega
      obtain ⟨x, hx⟩ : ∃ x, tx.data.toList[j]? = some x := ⟨_, List.getElem?_eq_getElem (by rw [HTL.out]; exact hlt)⟩
      have HS := hid (want_succ hx k a b c d)
      have HC := hid (want_cat (wantL tx.data.toList k a b c d j) tx j x hx)
      have hwl := want_len tx.data.toList k a b c d j (by rw [HTL.out]; exact hj)
      have HLB := hid (show leftB k a b c d j = (!inB k a b j && !inB k c d j) from rfl)
      have htz : ((j : Int) + 1) ≤ (tx.size : Int) := by rw [HTX.out]; omega
      obtain ⟨S, hS⟩ : ∃ bz : ByteArray, (⟨(wantL tx.data.toList k a b c d j).toArray⟩ : ByteArray) = bz := ⟨_, rfl⟩
      have hsz : S.size ≤ 50 := by rw [← hS, size_list]; show (wantL tx.data.toList k a b c d j).length ≤ 50; omega
      rw [hS] at HC ⊢
      have HSS := hid hS
      clear hx hwl hS
      go_wp2_with fail
      refine (in_any k j hk1 (by omega) hlt a b _).mono ?_
      rintro _ wy ⟨rfl, hwy⟩
      subst wy
      cases hA : inB k a b j with
      | true =>
        have HW := hid (show wantL tx.data.toList k a b c d (j + 1) = wantL tx.data.toList k a b c d j by rw [HS.out, HLB.out, hA]; simp)
        clear hA
        go_wp2_with fail
        go_roundw
        case rel => exact ⟨j + 1, by omega, by go_num, by rw [HW.out, HSS.out], by first | rfl | trivial⟩
        case measure => simp [intOf]; omega
      | false =>
        go_wp2_with fail
        refine (in_any k j hk1 (by omega) hlt c d _).mono ?_
        rintro _ wy ⟨rfl, hwy⟩
        subst wy
        cases hB : inB k c d j with
        | true =>
          have HW := hid (show wantL tx.data.toList k a b c d (j + 1) = wantL tx.data.toList k a b c d j by rw [HS.out, HLB.out, hA, hB]; simp)
          clear hA hB
          go_wp2_with fail
          go_roundw
          case rel => exact ⟨j + 1, by omega, by go_num, by rw [HW.out, HSS.out], by first | rfl | trivial⟩
          case measure => simp [intOf]; omega
        | false =>
          have HW := hid (show wantL tx.data.toList k a b c d (j + 1) = wantL tx.data.toList k a b c d j ++ [x] by rw [HS.out, HLB.out, hA, hB]; simp)
          clear hA hB
          go_wp2_with fail
          go_roundw
          case rel => exact ⟨j + 1, by omega, by go_num, by rw [HW.out, ← HC.out], by first | rfl | trivial⟩
          case measure => simp [intOf]; omega
    · have hj2 : j = k := by omega
      subst hj2
      rw [HZ.out]
      clear hlt hj
      go_wp2_with fail
      go_ret
      exact ⟨rfl, Hb5.out⟩
end Go.Proofs.Ytlgdllbhddnokab
