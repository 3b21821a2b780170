/- The walk of PeopleOrders (chapter 12). -/
import Derived.Test.YtjedajfemhpogaaKnown12
import Derived.Test.YtjedajfemhpogaaUser12
import Derived.Test.YtjedajfemhpogaaSame12
import Derived.Test.YtjedajfemhpogaaOpen12
namespace Go.Proofs.Ytjedajfemhpogaa
open Go.RowKit
set_option linter.unusedSimpArgs false
set_option linter.unusedVariables false

/-- What holds of each place, as a row. -/
theorem row_of {α : Type} {P : Nat → α → Prop} : ∀ n : Nat, (∀ j, j < n → ∃ x, P j x) → ∃ l : List α, l.length = n ∧ ∀ j x, l[j]? = some x → P j x
  | 0, _ => ⟨[], rfl, fun j x h => by simp at h⟩
  | n + 1, h => by
    obtain ⟨l, hl, hp⟩ := row_of n fun j hj => h j (by omega)
    obtain ⟨x, hx⟩ := h n (by omega)
    refine ⟨l ++ [x], by simp [hl], fun j y hy => ?_⟩
    by_cases hlt : j < n
    · rw [List.getElem?_append_left (by omega)] at hy
      exact hp j y hy
    · rw [List.getElem?_append_right (by omega)] at hy
      have h0 : j - l.length = 0 := by
        rcases Nat.eq_zero_or_pos (j - l.length) with h | h
        · exact h
        · rw [List.getElem?_eq_none (by simp; omega)] at hy; cases hy
      rw [h0] at hy
      cases hy
      rw [show j = n by omega]
      exact hx
/-- A row, turned about by k. -/
def rot (us : List Ad) (n k : Nat) : List Ad := (List.range n).map fun j => us.getD ((j + k) % n) (0, 0)
theorem rot_mem {us : List Ad} {n k : Nat} (hn : n ≤ us.length) (hk : k < n) (x : Ad) : x ∈ us.take n ↔ x ∈ rot us n k := by
  unfold rot
  rw [List.mem_map]
  constructor
  · intro h
    obtain ⟨i, hi, rfl⟩ := List.mem_iff_getElem.1 h
    rw [List.length_take] at hi
    refine ⟨(i + (n - k)) % n, List.mem_range.2 (Nat.mod_lt _ (by omega)), ?_⟩
    have e : ((i + (n - k)) % n + k) % n = i := by
      rw [Nat.mod_add_mod, show i + (n - k) + k = i + n by omega, Nat.add_mod_right, Nat.mod_eq_of_lt (by omega)]
    rw [e, List.getD_eq_getElem?_getD, List.getElem?_eq_getElem (by omega), List.getElem_take]
    rfl
  · rintro ⟨j, hj, rfl⟩
    have hm : (j + k) % n < n := Nat.mod_lt _ (by omega)
    rw [List.getD_eq_getElem?_getD, List.getElem?_eq_getElem (by omega)]
    exact List.mem_iff_getElem.2 ⟨(j + k) % n, by rw [List.length_take]; omega, by rw [List.getElem_take]; rfl⟩
theorem rot_get {us : List Ad} {n k i : Nat} (hi : i < n) : (rot us n k)[i]? = some (us.getD ((i + k) % n) (0, 0)) := by
  unfold rot
  rw [List.getElem?_map, List.getElem?_range hi]
  rfl
theorem take_next {α : Type} {l : List α} {i : Nat} {x : α} (h : l[i]? = some x) : l.take (i + 1) = l.take i ++ [x] := by
  rw [List.take_add_one, h]
  rfl
theorem orders_end {us : List Ad} {n k : Nat} (hn : n ≤ us.length) (hn8 : n ≤ 8) (hk : k < n) : addAll [] (us.take n) = addAll [] ((rot us n k).take n) := by
  have hl : (rot us n k).length = n := by simp [rot]
  rw [List.take_of_length_le (l := rot us n k) (by omega)]
  exact addAll_perm (by rw [List.length_take]; omega) (fun x => rot_mem hn hk x) (by omega)

set_option maxRecDepth 100000 in
set_option maxHeartbeats 4000000 in
theorem porders_row (W : World) (ao : Option Addr) (len cap : Nat) (hl : InAct12 W ao len cap) (b : Int) (hb : (Lit.int .i64 b).wf = true) (_u : World) :
    Calls Try.prog 3 #[.slice ao len cap, .int .i64 b] W fun e w' => e = .returned (.bool true) ∧ Below W.heap.size W w' := by
  obtain ⟨xs, hx1, hx2⟩ := row_of (P := fun j (x : Int × Int × Bool) => ∃ (g off : Nat), ao = some ⟨g, off, none⟩ ∧ W.rangeAt g (off + j * 3) [.int .i64 x.1, .int .i64 x.2.1, .bool x.2.2]) len (fun j hj => by
    obtain ⟨g, off, D, U, q, h1, h2, _⟩ := hl.at_ j hj
    exact ⟨(D, U, q), g, off, h1, h2⟩)
  have HX := hid hx2
  have hlc := hl.le
  have hcm := hl.cap
  obtain ⟨us, hus⟩ : ∃ us, xs.map (fun x => userF x.1 x.2.1) = us := ⟨_, rfl⟩
  have HUL := hid (show us.length = len by rw [← hus, List.length_map, hx1])
  have HU := hid (show ∀ (j : Nat), j < len → ∃ (g off : Nat) (D U : Int) (q : Bool), ao = some ⟨g, off, none⟩ ∧ W.rangeAt g (off + j * 3) [.int .i64 D, .int .i64 U, .bool q] ∧ us[j]? = some (userF D U) from fun j hj => by
    obtain ⟨g, off, h1, h2⟩ := hx2 j xs[j] (List.getElem?_eq_getElem (by omega))
    refine ⟨g, off, _, _, _, h1, h2, ?_⟩
    rw [← hus, List.getElem?_map, List.getElem?_eq_getElem (by omega)]
    rfl)
  obtain ⟨n, hn⟩ : ∃ n, min len 8 = n := ⟨_, rfl⟩
  have HN := hid hn
  have hn8 : n ≤ 8 := by omega
  have hnl : n ≤ len := by omega
  have HMIN := hid (show min (len : Int) 8 = (n : Int) by omega)
  clear hx1 hx2 hl hus HX hn hb
  go_enter Try.func3, Try.ntmps3
  go_wp2_with fail
  refine (known12_any _).mono ?_
  rintro _ w1 ⟨rfl, hb1⟩
  have Hb1 := hid hb1
  clear hb1
  unfold maxLen at hcm
  go_upto_region 5 with fail
  rw [show (if (8 : Int) < (len : Int) then (8 : Int) else (len : Int)) = (n : Int) from by have := HMIN.out; split <;> omega]
  go_wp2_with fail
  go_loopw [5, 6, 8] (fun av bv iv wr => ∃ (i : Nat) (la lb : List Ad) (o1 o2 : Option Addr) (c1 c2 : Nat), i ≤ n ∧ iv = .int .i64 (i : Int) ∧ av = .slice o1 la.length c1 ∧ RA wr (.slice o1 la.length c1) la ∧ bv = .slice o2 lb.length c2 ∧ RA wr (.slice o2 lb.length c2) lb ∧ la = addAll [] (us.take i) ∧ lb = addAll [] ((rot us n (b % (n : Int)).toNat).take i) ∧ Below W.heap.size W wr) (fun _ _ iv _ => n - (intOf iv).toNat)
  case atStart => exact ⟨0, [], [], none, none, 0, 0, Nat.zero_le _, rfl, rfl, RA.nil _, rfl, RA.nil _, rfl, rfl, Hb1.out⟩
  case round =>
    obtain ⟨i, la, lb, o1, o2, c1, c2, hi, rfl, rfl, hA, rfl, hB, hla, hlb, hb⟩ := hrel
    have HA := hid hA
    have HB := hid hB
    have HLA := hid hla
    have HLB := hid hlb
    have Hb := hid hb
    clear hA hB hla hlb hb
    by_cases hlt : i < n
    · have hlt' : (i : Int) < (n : Int) := by omega
      obtain ⟨k, hk⟩ : ∃ k, (b % (n : Int)).toNat = k := ⟨_, rfl⟩
      have hkb : b % (n : Int) = (k : Int) := by
        have := Int.emod_nonneg b (b := (n : Int)) (by omega)
        omega
      have hkn : k < n := by
        have := Int.emod_lt_of_pos b (b := (n : Int)) (by omega)
        omega
      have HKB := hid hkb
      rw [hk] at HLB
      obtain ⟨m, hm⟩ : ∃ m, (i + k) % n = m := ⟨_, rfl⟩
      have hmn : m < n := by rw [← hm]; exact Nat.mod_lt _ (by omega)
      have ht : ((i : Int) + (k : Int)).tmod (n : Int) = (m : Int) := by
        rw [Int.tmod_eq_emod_of_nonneg (by omega), ← hm, Int.natCast_emod, Int.natCast_add]
      obtain ⟨g, off, D, U, q, rfl, h1, h2⟩ := HU.out i (by omega)
      obtain ⟨g', off', D', U', q', e, h3, h4⟩ := HU.out m (by omega)
      injection e with e
      injection e with e1 e2
      subst e1 e2
      have HXA := hid (show addAll [] (us.take (i + 1)) = (ppAdd la (userF D U)).1 by rw [take_next h2, addAll_snoc, ← HLA.out])
      have HXB := hid (show addAll [] ((rot us n k).take (i + 1)) = (ppAdd lb (userF D' U')).1 by
        rw [take_next (rot_get hlt), hm, List.getD_eq_getElem?_getD, h4, addAll_snoc, ← HLB.out]
        rfl)
      have HOA := hid (show PpOk la by rw [HLA.out]; exact addAll_ok PpOk.nil)
      have HOB := hid (show PpOk lb by rw [HLB.out]; exact addAll_ok PpOk.nil)
      have x0 : wr.cell? ⟨g, off + i * 3, none⟩ = some (.int .i64 D) := cell_later Hb.out (h1 0 _ rfl)
      have x1 : wr.cell? ⟨g, off + i * 3 + 1, none⟩ = some (.int .i64 U) := cell_later Hb.out (h1 1 _ rfl)
      have x2 : wr.cell? ⟨g, off + i * 3 + 2, none⟩ = some (.bool q) := cell_later Hb.out (h1 2 _ rfl)
      have HY := hid h3
      have him : (m : Int) < (len : Int) := by omega
      have hil : (i : Int) < (len : Int) := by omega
      clear h1 h2 h3 h4 hk hkb hm
      go_wp2_with fail
      refine (user12_any D U q _).mono ?_
      rintro _ w2 ⟨rfl, hb2⟩
      have Hb2 := hid (below_seq Hb.out hb2)
      have HA2 := hid (HA.out.later hb2)
      have HB2 := hid (HB.out.later hb2)
      clear hb2 x0 x1 x2
      go_wp2_with fail
      refine (pAdd_any _ la (userF D U) _ HA2.out HOA.out).mono ?_
      rintro _ w3 ⟨a3, c3, rfl, hA3, hb3⟩
      have Hb3 := hid (below_seq Hb2.out hb3)
      have HA3 := hid hA3
      have HB3 := hid (HB2.out.later hb3)
      clear hA3 hb3 Hb2 HA2 HB2
      have y0 : w3.cell? ⟨g, off + m * 3, none⟩ = some (.int .i64 D') := cell_later Hb3.out (HY.out 0 _ rfl)
      have y1 : w3.cell? ⟨g, off + m * 3 + 1, none⟩ = some (.int .i64 U') := cell_later Hb3.out (HY.out 1 _ rfl)
      have y2 : w3.cell? ⟨g, off + m * 3 + 2, none⟩ = some (.bool q') := cell_later Hb3.out (HY.out 2 _ rfl)
      go_wp2_with fail
      refine (within12_any b (n : Int) (by omega) (by omega) _).mono ?_
      rintro _ w4 ⟨rfl, rfl⟩
      rw [HKB.out]
      go_wp2_with fail
      refine (user12_any D' U' q' _).mono ?_
      rintro _ w5 ⟨rfl, hb5⟩
      have Hb5 := hid (below_seq Hb3.out hb5)
      have HA5 := hid (HA3.out.later hb5)
      have HB5 := hid (HB3.out.later hb5)
      clear hb5 y0 y1 y2
      go_wp2_with fail
      refine (pAdd_any _ lb (userF D' U') _ HB5.out HOB.out).mono ?_
      rintro _ w6 ⟨a6, c6, rfl, hB6, hb6⟩
      have Hb6 := hid (below_seq Hb5.out hb6)
      have HB6 := hid hB6
      have HA6 := hid (HA5.out.later hb6)
      clear hB6 hb6
      go_wp2_with fail
      go_roundw
      case rel => exact ⟨i + 1, _, _, a3, a6, c3, c6, by omega, by go_num, rfl, HA6.out, rfl, HB6.out, HXA.out.symm, by rw [HKB.out]; exact HXB.out.symm, Hb6.out⟩
      case measure => simp [intOf]; omega
    · have hin : i = n := by omega
      have hni : ¬ (i : Int) < (n : Int) := by omega
      have HEQ := hid (show la = lb by
        rw [HLA.out, HLB.out, hin]
        by_cases h0 : n = 0
        · rw [h0]; rfl
        · exact orders_end (by rw [HUL.out]; omega) (by omega) (by
            have h1 := Int.emod_nonneg b (b := (n : Int)) (by omega)
            have h2 := Int.emod_lt_of_pos b (b := (n : Int)) (by omega)
            omega))
      have HLE := hid (show la.length ≤ 1048576 by
        rw [HLA.out]
        have := (addAll_ok (r := us.take i) PpOk.nil).len
        omega)
      go_wp2_with fail
      refine (same12_any _ _ la _ HA.out (by rw [HEQ.out] at *; exact HB.out) HLE.out).mono ?_
      rintro _ w2 ⟨rfl, hb2⟩
      have Hb2 := hid (below_seq Hb.out hb2)
      clear hb2
      go_wp2_with fail
      go_ret
      exact ⟨rfl, Hb2.out⟩
end Go.Proofs.Ytjedajfemhpogaa
