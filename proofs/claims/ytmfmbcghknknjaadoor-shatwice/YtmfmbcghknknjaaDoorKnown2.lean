/- The contracts of known and within. -/
import Derived.Test.YtmfmbcghknknjaaDoorHex
import Derived.Lib.SlBytesConst
namespace Go.Proofs.YtmfmbcghknknjaaDoor
open Go.RowKit
set_option linter.unusedSimpArgs false
set_option linter.unusedVariables false

theorem sha_abc : hexL ((shaS [97, 98, 99]).take 4) = [98, 97, 55, 56, 49, 54, 98, 102] := by decide +kernel
theorem hex_abc_len : (hexS (shaS [97, 98, 99])).size = 64 := by
  have : ∀ l : List UInt8, (hexL l).length = 2 * l.length := by
    intro l
    induction l with
    | nil => rfl
    | cons b l ih =>
      have e : hexL (b :: l) = hex2 b ++ hexL l := by simp [hexL]
      rw [e, List.length_append, ih, List.length_cons]
      show 2 + _ = _
      omega
  show (hexL (shaS [97, 98, 99])).length = 64
  rw [this, shaS_len]

theorem hexL_len (l : List UInt8) : (hexL l).length = 2 * l.length := by
  induction l with
  | nil => rfl
  | cons b l ih =>
    have e : hexL (b :: l) = hex2 b ++ hexL l := by simp [hexL]
    rw [e, List.length_append, ih, List.length_cons]
    show 2 + _ = _
    omega
theorem hexL_take (l : List UInt8) (k : Nat) : (hexL l).take (2 * k) = hexL (l.take k) := by
  rcases Nat.lt_or_ge k l.length with h | h
  · have e : hexL l = hexL (l.take k) ++ hexL (l.drop k) := by rw [hexL, hexL, hexL, ← List.flatMap_append, List.take_append_drop]
    rw [e]
    exact List.take_left' (by rw [hexL_len, List.length_take]; omega)
  · rw [List.take_of_length_le h, List.take_of_length_le (by rw [hexL_len]; omega)]
theorem hex_abc_8 : (hexS (shaS [97, 98, 99])).extract 0 8 = ⟨#[98, 97, 55, 56, 49, 54, 98, 102]⟩ := by
  apply ByteArray.ext
  rw [ByteArray.data_extract]
  show (hexL (shaS [97, 98, 99])).toArray.extract 0 8 = _
  rw [List.extract_toArray, List.extract_eq_take_drop, List.drop_zero, show 8 - 0 = 2 * 4 from rfl, hexL_take, sha_abc]

set_option maxRecDepth 100000 in
set_option maxHeartbeats 1000000 in
theorem known_any (w : World) (ht : Tabs w) : Calls Tryd.prog 8 #[] w fun e w' => e = .returned (.bool true) ∧ Below w.heap.size w w' := by
  have HT := hid ht
  clear ht
  have kc := fun (w : World) (C : Array Value) (n c : Nat) => Lib.run_convert_bytes_const (P := Tryd.prog) w 26 5 C n c Tryd.underlying26 Tryd.underlying5
  have kc2 : ∀ (w : World) (o : Obj) (C : Array Value) (n c : Nat), (convert 26 26 (.slice (some ⟨w.heap.size + 1, 0, none⟩) n c)).run Tryd.prog ((w.alloc o).alloc (.cells C 5)) = .ok (.slice (some ⟨w.heap.size + 1, 0, none⟩) n c) ((w.alloc o).alloc (.cells C 5 (C.size, C.size + 1))) := by
    intro w o C n c
    have h := kc (w.alloc o) C n c
    have e : (w.alloc o).heap.size = w.heap.size + 1 := by simp
    rw [e] at h
    exact h
  go_enter Tryd.func8, Tryd.ntmps8
  go_wp2_with fail
  clear kc kc2
  have hs1 : ∀ (w : World) (o : Obj), (w.alloc o).heap.size = w.heap.size + 1 := fun w o => by simp
  have hp : Parts (((w.alloc (Obj.cells #[Value.int IntKind.u8 97] 5 (1, 2))).alloc (Obj.cells #[Value.int IntKind.u8 98, Value.int IntKind.u8 99] 5 (2, 3))).alloc
      (Obj.cells #[Value.slice (some ⟨w.heap.size, 0, none⟩) 1 1, Value.slice (some ⟨w.heap.size + 1, 0, none⟩) 2 2] 26)) (.slice (some ⟨w.heap.size + 1 + 1, 0, none⟩) 2 2) [[97], [98, 99]] := by
    refine Parts.pair (t := 26) (fr := (0, 0)) ?_ (reads_row (g := w.heap.size) (C := #[Value.int IntKind.u8 97]) (t := 5) (fr := (1, 2)) ?_ rfl 1 1 rfl (Nat.le_refl _)) rfl (by unfold maxLen; omega) (reads_row (g := w.heap.size + 1) (C := #[Value.int IntKind.u8 98, Value.int IntKind.u8 99]) (t := 5) (fr := (2, 3)) ?_ rfl 2 2 rfl (Nat.le_refl _)) rfl (by unfold maxLen; omega)
    · rw [heap_of_alloc, if_pos (by rw [hs1, hs1])]
    · rw [heap_of_alloc, if_neg (by rw [hs1, hs1]; omega), heap_of_alloc, if_neg (by rw [hs1]; omega), heap_of_alloc, if_pos rfl]
    · rw [heap_of_alloc, if_neg (by rw [hs1, hs1]; omega), heap_of_alloc, if_pos (by rw [hs1])]
  have hbW : Below w.heap.size w (((w.alloc (Obj.cells #[Value.int IntKind.u8 97] 5 (1, 2))).alloc (Obj.cells #[Value.int IntKind.u8 98, Value.int IntKind.u8 99] 5 (2, 3))).alloc
      (Obj.cells #[Value.slice (some ⟨w.heap.size, 0, none⟩) 1 1, Value.slice (some ⟨w.heap.size + 1, 0, none⟩) 2 2] 26)) :=
    (((Below.refl _ _).alloc (Nat.le_refl _) _).alloc (by simp) _).alloc (by simp; omega) _
  generalize ((w.alloc (Obj.cells #[Value.int IntKind.u8 97] 5 (1, 2))).alloc (Obj.cells #[Value.int IntKind.u8 98, Value.int IntKind.u8 99] 5 (2, 3))).alloc
      (Obj.cells #[Value.slice (some ⟨w.heap.size, 0, none⟩) 1 1, Value.slice (some ⟨w.heap.size + 1, 0, none⟩) 2 2] 26) = W at *
  clear hs1
  refine (Sum_any W (HT.out.below hbW (by have := HT.out.two; omega)) _ [[97], [98, 99]] hp (by decide) (by decide)).mono ?_
  rintro e w1 ⟨rfl, hb1⟩
  have hB1 := below_seq hbW hb1
  clear hp hbW hb1
  go_wp2_with fail
  refine (Hex_any _ (shaS_len _) w1).mono ?_
  rintro e w2 ⟨rfl, hb2⟩
  have hB2 := hid (below_seq hB1 hb2)
  have hsz := hex_abc_len
  have hex8 := hex_abc_8
  clear hB1 hb2
  generalize hexS (shaS [97, 98, 99]) = S at *
  go_wp2_with fail
  go_ret
  exact ⟨rfl, hB2.out⟩
end Go.Proofs.YtmfmbcghknknjaaDoor
