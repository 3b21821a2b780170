/- A text put at a place, a stretch cut at a place, as lists; the contract of the laws' own function put. -/
import Derived.Test.YtcghcocacbglbaaOb5
namespace Go.Proofs.Ytcghcocacbglbaa
open Go.RowKit
set_option linter.unusedSimpArgs false
set_option linter.unusedVariables false

def putS (n m : Nat) (s : ByteArray) : List Cp := idS m ++ (pP s :: idS (n - m))
def cutS (n m k : Nat) : List Cp := idS m ++ (pX k :: idS (n - m))
theorem act_app {α : Type} {f : UInt8 → α} : ∀ (o p : List Cp) (d : List α), Good o → act f d (o ++ p) = act f d o ++ act f (d.drop (inS o).toNat) p
  | [], p, d, _ => by simp [act, inS]
  | c :: o, p, d, h => by
    have hnn := h.tl.inS_nn
    rw [List.cons_append]
    rcases ok_cases h.hd with ⟨m, hm, rfl⟩ | ⟨s, hs, rfl⟩ | ⟨m, hm, rfl⟩
    · rw [ac_K, ac_K, act_app o p _ h.tl, List.append_assoc, List.drop_drop, in_cons, over_K, show ((m : Int) + inS o).toNat = m + (inS o).toNat by omega]
    · rw [ac_P, ac_P, act_app o p _ h.tl, List.append_assoc, in_cons, over_P, Int.zero_add]
    · rw [ac_X, ac_X, act_app o p _ h.tl, List.drop_drop, in_cons, over_X, show ((m : Int) + inS o).toNat = m + (inS o).toNat by omega]
theorem id_take {α : Type} (f : UInt8 → α) (d : List α) (m : Nat) : act f d (idS m) = d.take m := by
  unfold idS
  split
  · subst m; simp [act]
  · rw [ac_K]; simp [act]
theorem put_act {α : Type} (f : UInt8 → α) (d : List α) (n m : Nat) (s : ByteArray) (hd : d.length = n) (hm : m ≤ n) : act f d (putS n m s) = d.take m ++ (s.data.toList.map f ++ d.drop m) := by
  have e : (d.drop m).take (n - m) = d.drop m := List.take_of_length_le (by rw [List.length_drop]; omega)
  rw [putS, act_app _ _ _ (id_good m), id_take, id_in, Int.toNat_natCast, ac_P, id_take, e]
theorem cut_act {α : Type} (f : UInt8 → α) (d : List α) (n m k : Nat) (hd : d.length = n + k) (hm : m ≤ n) : act f d (cutS n m k) = d.take m ++ d.drop (m + k) := by
  have e : (d.drop (m + k)).take (n - m) = d.drop (m + k) := List.take_of_length_le (by rw [List.length_drop]; omega)
  rw [cutS, act_app _ _ _ (id_good m), id_take, id_in, Int.toNat_natCast, ac_X, List.drop_drop, id_take, e]
theorem put_good (n m : Nat) {s : ByteArray} (hs : 1 ≤ s.size) : Good (putS n m s) := (id_good m).append (good_mk (okP hs) (id_good _))
theorem cut_good (n m k : Nat) (hk : 1 ≤ k) : Good (cutS n m k) := (id_good m).append (good_mk (okX (by omega)) (id_good _))
theorem put_in (n m : Nat) (s : ByteArray) (hm : m ≤ n) : inS (putS n m s) = n := by
  rw [putS, inS_append, in_cons, over_P, id_in, id_in]; omega
theorem put_out (n m : Nat) (s : ByteArray) (hm : m ≤ n) : outS (putS n m s) = ((n + s.size : Nat) : Int) := by
  rw [putS, outS_append, out_cons, outl_P, id_out, id_out]; omega
theorem cut_in (n m k : Nat) (hm : m ≤ n) : inS (cutS n m k) = ((n + k : Nat) : Int) := by
  rw [cutS, inS_append, in_cons, over_X, id_in, id_in]; omega
theorem cut_out (n m k : Nat) (hm : m ≤ n) : outS (cutS n m k) = n := by
  rw [cutS, outS_append, out_cons, outl_X, id_out, id_out]; omega
theorem put_norm (n m : Nat) (s : ByteArray) : normS (putS n m s) = putS n m s := by
  unfold putS idS
  generalize n - m = r
  by_cases h1 : m = 0
  · by_cases h2 : r = 0
    · simp [h1, h2, normS, push, pushP, pP]
    · simp [h1, h2, normS, push, pushP, pushK, pP, pK]
  · by_cases h2 : r = 0
    · simp [h1, h2, normS, push, pushP, pushK, pP, pK]
    · simp [h1, h2, normS, push, pushP, pushK, pP, pK]
/-- What is put and cut again is not there. -/
theorem put_cut (n m : Nat) (s : ByteArray) (hs : 1 ≤ s.size) (hm : m ≤ n) : twoS (putS n m s) (cutS n m s.size) = normS (idS n) := by
  refine two_uniq (put_good n m hs) (cut_good n m _ hs) (by rw [cut_in _ _ _ hm, put_out _ _ _ hm]) (id_good n) (by rw [id_in, put_in _ _ _ hm]) (fun d hd => ?_)
  rw [put_in _ _ _ hm] at hd
  have hl : s.data.toList.length = s.size := by simp
  have ht : (d.take m).length = m := by rw [List.length_take]; omega
  rw [put_act _ _ n m s (by omega) hm, cut_act _ _ n m _ (by simp; omega) hm, show n = d.length by omega, id_act, List.take_left' ht, ← List.drop_drop, List.drop_left' ht, List.drop_left' (by rw [List.length_map, hl]), List.take_append_drop]
/-- What is put twice at one place stands as it was put. -/
theorem put_put1 (n m : Nat) (s t : ByteArray) (hs : 1 ≤ s.size) (ht : 1 ≤ t.size) (hm : m ≤ n) : twoS (putS n m s) (putS (n + s.size) m t) = putS n m (t ++ s) := by
  have h1 : 1 ≤ (t ++ s).size := by rw [ByteArray.size_append]; omega
  rw [← put_norm n m (t ++ s)]
  refine two_uniq (put_good n m hs) (put_good _ m ht) (by rw [put_in _ _ _ (by omega), put_out _ _ _ hm]) (put_good n m h1) (by rw [put_in _ _ _ hm, put_in _ _ _ hm]) (fun d hd => ?_)
  rw [put_in _ _ _ hm] at hd
  have hl : s.data.toList.length = s.size := by simp
  have hx : (d.take m).length = m := by rw [List.length_take]; omega
  rw [put_act _ _ n m _ (by omega) hm, put_act _ _ n m s (by omega) hm, put_act _ _ (n + s.size) m t (by simp; omega) (by omega), List.take_left' hx, List.drop_left' hx]
  simp
theorem put_put2 (n m : Nat) (s t : ByteArray) (hs : 1 ≤ s.size) (ht : 1 ≤ t.size) (hm : m ≤ n) : twoS (putS n m s) (putS (n + s.size) (m + s.size) t) = putS n m (s ++ t) := by
  have h1 : 1 ≤ (s ++ t).size := by rw [ByteArray.size_append]; omega
  rw [← put_norm n m (s ++ t)]
  refine two_uniq (put_good n m hs) (put_good _ _ ht) (by rw [put_in _ _ _ (by omega), put_out _ _ _ hm]) (put_good n m h1) (by rw [put_in _ _ _ hm, put_in _ _ _ hm]) (fun d hd => ?_)
  rw [put_in _ _ _ hm] at hd
  have hl : s.data.toList.length = s.size := by simp
  have hx : (d.take m ++ s.data.toList.map (Sum.inr : UInt8 → Nat ⊕ UInt8)).length = m + s.size := by rw [List.length_append, List.length_take, List.length_map, hl]; omega
  rw [put_act _ _ n m _ (by omega) hm, put_act _ _ n m s (by omega) hm, put_act _ _ (n + s.size) (m + s.size) t (by simp; omega) (by omega)]
  have e : d.take m ++ (s.data.toList.map (Sum.inr : UInt8 → Nat ⊕ UInt8) ++ d.drop m) = (d.take m ++ s.data.toList.map (Sum.inr : UInt8 → Nat ⊕ UInt8)) ++ d.drop m := by simp
  rw [e, List.take_left' hx, List.drop_left' hx]
  simp

theorem put_ob {w : World} {v : Value} {n m : Nat} {s : ByteArray} (h : RC w v (putS n m s)) (hs : 1 ≤ s.size) (hm : m ≤ n) (hn : n + s.size ≤ 200) : Ob w v (putS n m s) n (n + s.size) :=
  ⟨h, put_good n m hs, put_in _ _ _ hm, put_out _ _ _ hm, by omega, hn⟩
theorem cut_ob {w : World} {v : Value} {n m k : Nat} (h : RC w v (cutS n m k)) (hk : 1 ≤ k) (hm : m ≤ n) (hn : n + k ≤ 200) : Ob w v (cutS n m k) (n + k) n :=
  ⟨h, cut_good n m k hk, cut_in _ _ _ hm, cut_out _ _ _ hm, hn, by omega⟩

set_option maxRecDepth 100000 in
set_option maxHeartbeats 2000000 in
theorem put5_any (w : World) (n m : Nat) (s : ByteArray) (hs : 1 ≤ s.size) (hm : m ≤ n) (hn : n + s.size ≤ 200) :
    Calls Try.prog 21 #[.int .i64 (n : Int), .int .i64 (m : Int), .string s] w fun e w' => ∃ v, e = .returned v ∧ Ob w' v (putS n m s) n (n + s.size) ∧ Below w.heap.size w w' := by
  have HS := hid hs
  have hn1 : n ≤ 200 := by omega
  clear hs
  go_enter Try.func21, Try.ntmps21
  go_upto_if 9 with fail
  go_cut [7] (fun s7 w' => HasC w' w.heap.size s7 (idS m) ∧ Below w.heap.size w w')
  case first =>
    by_cases h0 : m = 0
    · subst h0
      go_wp2_with fail
      go_meet
      case rel => exact ⟨HasC.nil _ _, Below.refl _ _⟩
    · have h1 : (0 : Int) < (m : Int) := by omega
      have HE := hid (show idS m = [] ++ [pK m] by rw [idS, if_neg h0]; rfl)
      clear h0
      go_wp2_with (at_builtin; go_must (refine wpList_append_c rfl _ _ rfl w.heap.size _ [] rfl (HasC.nil _ _) ?hs _ [pK m] rfl (one_new w (pK m) w.heap.size (Nat.le_refl _)).reads ?hb ?_))
      case hs => simp
      case hb => simp
      intro v1 w1 hH1 hb1
      have HH := hid hH1
      have HB := hid (show Below w.heap.size w w1 from ((Below.refl _ _).alloc (Nat.le_refl _) _).trans hb1)
      clear hH1 hb1
      go_wp2_with fail
      go_meet
      case rel => exact ⟨by rw [HE.out]; exact HH.out, HB.out⟩
  case rest =>
  obtain ⟨hH, hb⟩ := hcut
  rename_i s7
  obtain ⟨a7, c7, rfl⟩ := hH.form
  have hil := id_len m
  have H0 := hid hH
  have Hb0 := hid hb
  clear hH hb
  go_wp2_with (at_builtin; go_must (refine wpList_append_c rfl _ _ rfl w.heap.size _ (idS m) rfl (H0.out.later ((Below.refl _ _).alloc (Nat.le_refl _) _)) ?hs _ [pP s] rfl (one_new wc (pP s) w.heap.size Hb0.out.size).reads ?hb ?_))
  case hs => have := Hb0.out.size; simp; omega
  case hb => simp; omega
  intro v1 w1 hH1 hb1
  have HB1 := hid (show Below w.heap.size w w1 from (Hb0.out.alloc Hb0.out.size _).trans hb1)
  obtain ⟨l1, hl1⟩ : ∃ l1, idS m ++ [pP s] = l1 := ⟨_, rfl⟩
  rw [hl1] at hH1
  have hll : l1.length ≤ 2 := by rw [← hl1, List.length_append]; simp; omega
  obtain ⟨a1, c1, rfl⟩ := hH1.form
  have HH1 := hid hH1
  have HL1 := hid hl1
  clear hH1 hb1 hl1
  by_cases h2 : m < n
  · have h3 : (m : Int) < (n : Int) := by omega
    have HE := hid (show l1 ++ [pK ((n : Int) - (m : Int))] = putS n m s by rw [← HL1.out, putS, List.append_assoc]; congr 1; rw [idS, if_neg (by omega), show ((n - m : Nat) : Int) = (n : Int) - (m : Int) by omega]; rfl)
    go_wp2_with (at_builtin; go_must (refine wpList_append_c rfl _ _ rfl w.heap.size _ l1 rfl (HH1.out.later ((Below.refl _ _).alloc (Nat.le_refl _) _)) ?hs _ [pK ((n : Int) - (m : Int))] rfl (one_new w1 (pK ((n : Int) - (m : Int))) w.heap.size HB1.out.size).reads ?hb ?_))
    case hs => have := HB1.out.size; simp; omega
    case hb => simp; omega
    intro v2 w2 hH2 hb2
    have HB2 := hid (show Below w.heap.size w w2 from (HB1.out.alloc HB1.out.size _).trans hb2)
    rw [HE.out] at hH2
    have HH2 := hid hH2
    clear hH2 hb2
    go_wp2_with fail
    go_ret
    exact ⟨_, rfl, put_ob HH2.out.reads HS.out hm hn, HB2.out⟩
  · have h3 : ¬ (m : Int) < (n : Int) := by omega
    have HE := hid (show l1 = putS n m s by rw [← HL1.out, putS, show n - m = 0 by omega]; rfl)
    go_wp2_with fail
    go_ret
    exact ⟨_, rfl, put_ob (by rw [← HE.out]; exact HH1.out.reads) HS.out hm hn, HB1.out⟩
end Go.Proofs.Ytcghcocacbglbaa
