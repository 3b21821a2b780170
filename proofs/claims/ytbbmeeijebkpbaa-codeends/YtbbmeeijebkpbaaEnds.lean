/- The law CodeEnds: numbers at the ends, and bytes of any number, are read as they must. -/
import Derived.Test.YtbbmeeijebkpbaaPlain
import Derived.Test.YtbbmeeijebkpbaaArg
import Derived.Deep.RegionHeld3
import Derived.Deep.DrawnRows
namespace Go.Proofs.Ytbbmeeijebkpbaa
open Go.RowKit

/-- Numbers, each as eight bytes and as one. -/
def enc (l : List Int) : List UInt8 := l.flatMap fun x => le 8 (x % 18446744073709551616).toNat ++ le 1 (x % 18446744073709551616).toNat

theorem enc_len (l : List Int) : (enc l).length = 9 * l.length := by
  induction l with
  | nil => rfl
  | cons x r ih =>
    have e : enc (x :: r) = le 8 (x % 18446744073709551616).toNat ++ le 1 (x % 18446744073709551616).toNat ++ enc r := by simp [enc]
    rw [e]
    simp only [List.length_append, le_length, ih, List.length_cons]
    omega

theorem enc_take (l : List Int) (j : Nat) (x : Int) (h : l[j]? = some x) : enc (l.take (j + 1)) = enc (l.take j) ++ le 8 (x % 18446744073709551616).toNat ++ le 1 (x % 18446744073709551616).toNat := by
  have e : l.take (j + 1) = l.take j ++ [x] := by rw [List.take_add_one, h]; rfl
  rw [e]
  simp [enc, List.append_assoc]

theorem enc_drop (l : List Int) (j : Nat) (x : Int) (h : l[j]? = some x) : enc (l.drop j) = le 8 (x % 18446744073709551616).toNat ++ (le 1 (x % 18446744073709551616).toNat ++ enc (l.drop (j + 1))) := by
  have hj := (List.getElem?_eq_some_iff.1 h)
  have e : l.drop j = x :: l.drop (j + 1) := by rw [List.drop_eq_getElem_cons hj.1, hj.2]
  rw [e]
  simp [enc, List.append_assoc]

theorem wrap_range (z : Int) : -9223372036854775808 ≤ wrap64 z ∧ wrap64 z ≤ 9223372036854775807 := by
  simp only [wrap64]
  omega

theorem cells6 (w : World) (t : TypeId) (a b c d e f : Int) (j : Nat) (x : Int) (h : [a, b, c, d, e, f][j]? = some x) :
    (w.alloc (.cells #[.int .i64 a, .int .i64 b, .int .i64 c, .int .i64 d, .int .i64 e, .int .i64 f] t)).cell? ⟨w.heap.size, j, none⟩ = some (.int .i64 x) := by
  rw [cell_of_row _ w.heap.size j _ t (0, 0) (heap_alloc_new w _)]
  match j, h with
  | 0, h => simpa using h
  | 1, h => simpa using h
  | 2, h => simpa using h
  | 3, h => simpa using h
  | 4, h => simpa using h
  | 5, h => simpa using h
  | j + 6, h => simp at h

set_option maxRecDepth 100000 in
set_option maxHeartbeats 1000000 in
theorem ends_any (n k : Int) (hn : Hid (-9223372036854775808 ≤ n ∧ n ≤ 9223372036854775807)) (w : World) :
    Calls Try.prog 7 #[.int .i64 n, .int .i64 k] w fun x w' => x = .returned (.bool true) ∧ Below w.heap.size w w' := by
  obtain ⟨q, hq⟩ : ∃ q : Nat, k % 62 = (q : Int) := Int.eq_ofNat_of_zero_le (by omega)
  have hq5 : q < 62 := by omega
  have HQ := hid hq
  clear hq
  go_enter Try.func7, Try.ntmps7
  go_wp2_with fail
  refine (known_any _).mono ?_
  rintro _ w1 ⟨rfl, hb1⟩
  go_wp2_with fail
  refine (within_any k 62 (by omega) (by omega) _).mono ?_
  rintro _ w1 ⟨rfl, rfl⟩
  rw [HQ.out]
  go_wp2_with fail
  obtain ⟨ns, hns⟩ : ∃ ns : List Int, ns = [n, 9223372036854775807, -9223372036854775808, 0, -1, wrap64 (2 ^ q)] := ⟨_, rfl⟩
  obtain ⟨L, hL⟩ : ∃ L : Nat, w1.heap.size = L := ⟨_, rfl⟩
  rw [hL]
  have hcell : ∀ j x, ns[j]? = some x → (w1.alloc (Obj.cells #[Value.int IntKind.i64 n, Value.int IntKind.i64 9223372036854775807, Value.int IntKind.i64 (-9223372036854775808), Value.int IntKind.i64 0, Value.int IntKind.i64 (-1), Value.int IntKind.i64 (wrap64 (2 ^ q))] 3)).cell? ⟨L, j, none⟩ = some (.int .i64 x) := by
    intro j x h
    rw [hns] at h
    rw [← hL]
    exact cells6 w1 3 _ _ _ _ _ _ j x h
  have hbW : Below w.heap.size w (w1.alloc (Obj.cells #[Value.int IntKind.i64 n, Value.int IntKind.i64 9223372036854775807, Value.int IntKind.i64 (-9223372036854775808), Value.int IntKind.i64 0, Value.int IntKind.i64 (-1), Value.int IntKind.i64 (wrap64 (2 ^ q))] 3)) := hb1.alloc hb1.size _
  have hnl : ns.length = 6 := by rw [hns]; rfl
  generalize w1.alloc (Obj.cells #[Value.int IntKind.i64 n, Value.int IntKind.i64 9223372036854775807, Value.int IntKind.i64 (-9223372036854775808), Value.int IntKind.i64 0, Value.int IntKind.i64 (-1), Value.int IntKind.i64 (wrap64 (2 ^ q))] 3) = W at *
  have HC := hid hcell
  have HRG : Hid (∀ (j : Nat) (x : Int), ns[j]? = some x → -9223372036854775808 ≤ x ∧ x ≤ 9223372036854775807) := by
    intro j x h
    have hm : x ∈ ns := List.mem_of_getElem? h
    rw [hns] at hm
    have hw : -9223372036854775808 ≤ wrap64 (2 ^ q) ∧ wrap64 (2 ^ q) ≤ 9223372036854775807 := wrap_range _
    have h1 := hn.out
    simp only [List.mem_cons, List.not_mem_nil, or_false] at hm
    rcases hm with rfl | rfl | rfl | rfl | rfl | rfl <;> first | exact h1 | exact hw | omega
  have HBW := hid hbW
  have HNL := hid hnl
  clear hcell hns hbW hnl hb1 hL hn
  go_loopw [6, 7] (fun v i wr => ∃ (j : Nat) (ao : Option Addr) (cap : Nat), j ≤ 6 ∧ i = .int .i64 j ∧ v = .slice ao (9 * j) cap ∧ Reads wr (.slice ao (9 * j) cap) (B (enc (ns.take j))) ∧ Below W.heap.size W wr) (fun _ i _ => 6 - (intOf i).toNat)
  case atStart => exact ⟨0, none, 0, Nat.zero_le _, rfl, rfl, Reads.nil _, Below.refl _ _⟩
  case round =>
    obtain ⟨j, ao, cap, hj, rfl, rfl, hr, hb⟩ := hrel
    have HR := hid hr
    have HB := hid hb
    clear hr hb
    by_cases hlt : j < 6
    · have hlt' : (j : Int) < 6 := by omega
      obtain ⟨x, hx⟩ : ∃ x, ns[j]? = some x := ⟨_, List.getElem?_eq_getElem (by rw [HNL.out]; exact hlt)⟩
      have hc := cell_later HB.out (HC.out j x hx)
      have HX := hid hx
      clear hx
      have HLn := hid (show (enc (ns.take j)).length = 9 * j by rw [enc_len, List.length_take, HNL.out]; omega)
      go_wp2_with fail
      go_region_held3 (fun w' => w'.cell? ⟨L, j, none⟩ = some (.int .i64 x)) (first | go_keep | exact cell_later hB1 (by first | assumption | go_keep) | exact cell_later hB2 (by first | assumption | go_keep))
        (first | (go_at_call 10; refine (cInt _ (enc (ns.take j)) (9 * j) HLn.out x _ ?_ (by omega)).mono ?_; (exact HR.out); rintro e w2 ⟨g1, cap1, rfl, hg1, hO1, hB1⟩)
               | (go_at_call 12; refine (cByte _ (enc (ns.take j) ++ le 8 (x % 18446744073709551616).toNat) (9 * j + 8) (by rw [List.length_append, le_length, HLn.out]) x _ ?_ (by omega)).mono ?_; (exact hO1.reads); rintro e w3 ⟨g2, cap2, rfl, hg2, hO2, hB2⟩))
      have HB3 := hid (below_seq (below_seq HB.out.drew hB1) hB2)
      have HR3 := hid hO2.reads
      have HE := hid (enc_take ns j x HX.out)
      clear hB1 hB2 hO2 hO1 hg1 hg2 hc
      go_wp2_with fail
      go_roundw
      case rel =>
        refine ⟨j + 1, some ⟨g2, 0, none⟩, cap2, by omega, by go_num, ?_, ?_, HB3.out⟩
        · rw [show 9 * (j + 1) = 9 * j + 8 + 1 by omega]
        · rw [show 9 * (j + 1) = 9 * j + 8 + 1 by omega, HE.out]
          exact HR3.out
      case measure => simp [intOf]; omega
    · have hj6 : j = 6 := by omega
      subst hj6
      clear hlt hj
      have HE6 := hid (show ns.take 6 = ns from List.take_of_length_le (by rw [HNL.out]; omega))
      go_wp2_with fail
      refine (New_any _ (enc ns) _ (by have := HR.out; rwa [HE6.out] at this) (by rw [enc_len, HNL.out]; omega)).mono ?_
      rintro _ w2 ⟨p, rfl, hp, hR2, h2⟩
      have HB2 := hid (below_seq HB.out h2)
      have hpp := hid (Nat.le_trans HB.out.size hp)
      have HR2 := hid hR2
      clear h2 hp hR2 HR HB
      go_wp2_with fail
      go_loopw [9] (fun i wr => ∃ j : Nat, j ≤ 6 ∧ i = .int .i64 j ∧ RD wr p (enc (ns.drop j), 0) ∧ Below W.heap.size W wr) (fun i _ => 6 - (intOf i).toNat)
      case atStart => exact ⟨0, Nat.zero_le _, rfl, HR2.out, HB2.out⟩
      case round =>
        clear HR2 HB2
        obtain ⟨j, hj, rfl, hr, hb⟩ := hrel
        have HR := hid hr
        have HB := hid hb
        clear hr hb
        by_cases hlt : j < 6
        · have hlt' : (j : Int) < 6 := by omega
          obtain ⟨x, hx⟩ : ∃ x, ns[j]? = some x := ⟨_, List.getElem?_eq_getElem (by rw [HNL.out]; exact hlt)⟩
          have hc := cell_later HB.out (HC.out j x hx)
          have HRX := hid (HRG.out j x hx)
          have HR' := hid (show RD wr p (le 8 (x % 18446744073709551616).toNat ++ (le 1 (x % 18446744073709551616).toNat ++ enc (ns.drop (j + 1))), 0) by rw [← enc_drop ns j x hx]; exact HR.out)
          have HX := hid hx
          have HLn := hid (show (enc (ns.drop (j + 1))).length ≤ 54 by rw [enc_len, List.length_drop, HNL.out]; omega)
          have hand := and_255 x
          have HLp := hid (show L ≠ p by have h1 := World.block_lt_of_cell? _ _ (HC.out j x HX.out); have h2 := hpp.out; simp only at h1; omega)
          clear hx HR
          go_wp2_with fail
          go_region_held3 (fun w' => w'.cell? ⟨L, j, none⟩ = some (.int .i64 x)) (first | go_keep | exact hG1.cell (by first | assumption | go_keep) (by simpa using HLp.out) | exact hG2.cell (by first | assumption | go_keep) (by simpa using HLp.out))
            (first | (go_at_call 19; refine (Int_read p x (le 1 (x % 18446744073709551616).toNat ++ enc (ns.drop (j + 1))) _ HRX.out.1 HRX.out.2 ?_ (by rw [List.length_append, le_length]; have := HLn.out; unfold maxLen; omega)).mono ?_; (exact HR'.out); rintro e w2 ⟨rfl, hR1, hG1⟩)
                   | (go_at_call 21; refine (Byte_read p x (enc (ns.drop (j + 1))) _ ?_ (by have := HLn.out; unfold maxLen; omega)).mono ?_; (exact hR1); rintro e w3 ⟨rfl, hR2, hG2⟩))
          have HB3 := hid (below_at (below_at HB.out.drew hG1 hpp.out) hG2 hpp.out)
          have HR3 := hid hR2
          clear hG1 hG2 hR1 hR2 hc
          go_wp2_with fail
          go_roundw
          case rel => exact ⟨j + 1, by omega, by go_num, HR3.out, HB3.out⟩
          case measure => simp [intOf]; omega
        · have hj6 : j = 6 := by omega
          subst hj6
          clear hlt hj
          have HE6 := hid (show ns.drop 6 = [] from List.drop_eq_nil_of_le (by rw [HNL.out]; omega))
          go_wp2_with fail
          refine (End_any p ([], 0) _ (by have := HR.out; rwa [HE6.out] at this) (by simp [maxLen])).mono ?_
          rintro _ w4 ⟨rfl, rfl⟩
          go_wp2_with fail
          go_ret
          exact ⟨rfl, below_seq HBW.out HB.out⟩

theorem ends_row (a0 a1 : Int) (w : World) (w0 : (Lit.int .i64 a0).wf = true) :
    Calls Try.prog 7 #[.int .i64 a0, .int .i64 a1] w fun e w' => e = .returned (.bool true) ∧ Below w.heap.size w w' :=
  ends_any a0 a1 (wf_i64 w0) w
end Go.Proofs.Ytbbmeeijebkpbaa
