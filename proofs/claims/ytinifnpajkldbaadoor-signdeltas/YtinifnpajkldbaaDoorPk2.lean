/- Texts laid together: BytesS, Sg, Room, Write, Reader. -/
import Derived.Test.YtinifnpajkldbaaDoorPk0
import Derived.Test.YtinifnpajkldbaaDoorPk1
import Derived.WalkLawsBesides

/- How an operation and a delta are written; of no program. -/
namespace Go.Proofs.YtinifnpajkldbaaDoor
open Go.RowKit
set_option linter.unusedSimpArgs false
set_option linter.unusedVariables false

/-- A number, a byte, a text as written. -/
def i8 (n : Int) : List UInt8 := le 8 (n % 18446744073709551616).toNat
def i1 (n : Int) : List UInt8 := le 1 (n % 18446744073709551616).toNat
def tx (s : List UInt8) : List UInt8 := le 2 s.length ++ s
theorem le_len : ∀ (k u : Nat), (le k u).length = k
  | 0, _ => rfl
  | k + 1, u => by rw [le, List.length_cons, le_len k]
theorem i8_len (n : Int) : (i8 n).length = 8 := le_len 8 _
theorem i1_len (n : Int) : (i1 n).length = 1 := le_len 1 _
theorem tx_len (s : List UInt8) : (tx s).length = 2 + s.length := by rw [tx, List.length_append, le_len]

def partB (c : Cp) : List UInt8 := i1 c.k ++ i8 c.n ++ le 2 c.s.size ++ c.s.data.toList
def opB (o : List Cp) : List UInt8 := i1 o.length ++ o.flatMap partB
def dB (d : Dl) (o : List Cp) : List UInt8 := i8 d.aD ++ i8 d.aU ++ i8 d.id ++ i8 d.ver ++ d.h ++ i1 d.k ++ tx (opB o) ++ i8 d.wD ++ i8 d.wU
/-- How long an operation is, written. -/
def partsN (o : List Cp) : Nat := (o.map fun c => 11 + c.s.size).sum
theorem partB_len (c : Cp) : (partB c).length = 11 + c.s.size := by simp [partB, i1_len, i8_len, le_len]; omega
theorem flat_len : ∀ (o : List Cp), (o.flatMap partB).length = partsN o
  | [] => rfl
  | c :: o => by rw [List.flatMap_cons, List.length_append, flat_len o, partB_len, partsN, partsN, List.map_cons, List.sum_cons]
theorem opB_len (o : List Cp) : (opB o).length = 1 + partsN o := by rw [opB, List.length_append, i1_len, flat_len]
theorem dB_len (d : Dl) (o : List Cp) (h : d.h.length = 32) : (dB d o).length = 84 + partsN o := by
  simp only [dB, List.length_append, i8_len, i1_len, tx_len, opB_len, h]; omega

/-- Short enough. -/
def FewS (o : List Cp) : Prop := o.length ≤ 50 ∧ ∀ c ∈ o, c.s.size ≤ 150
theorem partsN_le : ∀ (o : List Cp), (∀ c ∈ o, c.s.size ≤ 150) → partsN o ≤ 161 * o.length
  | [], _ => Nat.le_refl _
  | c :: o, h => by
    have h1 := h c (by simp)
    have h2 := partsN_le o (fun d hd => h d (by simp [hd]))
    rw [partsN, List.map_cons, List.sum_cons, List.length_cons]
    rw [partsN] at h2
    omega
theorem FewS.le {o : List Cp} (h : FewS o) : partsN o ≤ 8050 := by
  have := partsN_le o h.2
  have := h.1
  omega
theorem partsN_append (o p : List Cp) : partsN (o ++ p) = partsN o + partsN p := by simp [partsN]

theorem below_of_drew {Bd : Nat} {w w' : World} (h : Below Bd w.drew w') : Below Bd w w' := ⟨h.os, h.tape, h.output, h.size, h.block⟩
theorem partsN_take {o : List Cp} {j : Nat} {c : Cp} (h : o[j]? = some c) : partsN (o.take (j + 1)) = partsN (o.take j) + (11 + c.s.size) := by
  rw [take_succ' o j c h, partsN_append]; simp [partsN]
theorem flat_take {o : List Cp} {j : Nat} {c : Cp} (h : o[j]? = some c) : (o.take (j + 1)).flatMap partB = (o.take j).flatMap partB ++ partB c := by
  rw [take_succ' o j c h, List.flatMap_append]; simp
theorem FewS.take {o : List Cp} (h : FewS o) (j : Nat) : FewS (o.take j) := ⟨by rw [List.length_take]; have := h.1; omega, fun c hc => h.2 c (List.mem_of_mem_take hc)⟩
end Go.Proofs.YtinifnpajkldbaaDoor

/- Signed deltas, entries and keys as cells; of no program. -/
namespace Go.Proofs.YtinifnpajkldbaaDoor
open Go.RowKit
set_option linter.unusedSimpArgs false
set_option linter.unusedVariables false

theorem get_behind {α : Type} {xs ys : List α} {n : Nat} (h : xs.length = n) (j : Nat) : (xs ++ ys)[n + j]? = ys[j]? := by
  rw [List.getElem?_append_right (by omega), h, Nat.add_sub_cancel_left]
theorem get_front {α : Type} {xs ys : List α} {j : Nat} {v : α} (h : xs[j]? = some v) : (xs ++ ys)[j]? = some v := by
  rw [List.getElem?_append_left (List.getElem?_eq_some_iff.1 h).1]
  exact h

/-- A signed delta as cells. -/
def sgC (b : Value) (m : List UInt8) : List Value := b :: B m
theorem sgC_len {b : Value} {m : List UInt8} (h : m.length = 32) : (sgC b m).length = 33 := by simp [sgC, B_length, h]
theorem sgC_one {b : Value} {m : List UInt8} (hb : b.oneCell' = true) : ∀ v ∈ sgC b m, v.oneCell' = true := by
  intro v hv
  rcases List.mem_cons.1 hv with rfl | hv
  · exact hb
  · exact B_one _ _ hv
theorem sgC_mac {b v : Value} {m : List UInt8} {j : Nat} (h : (B m)[j]? = some v) : (sgC b m)[1 + j]? = some v := by
  rw [sgC, Nat.add_comm, List.getElem?_cons_succ]
  exact h

/-- An entry but for its body and its operation. -/
structure En where
  m1 : List UInt8
  at_ : Int
  hash : List UInt8
  mac : List UInt8
structure En.Ok (e : En) : Prop where
  h1 : e.m1.length = 32
  h2 : e.hash.length = 32
  h3 : e.mac.length = 32
def En.cells (e : En) (b o : Value) : List Value := ([b] ++ B e.m1) ++ ([.int .i64 e.at_, o] ++ (B e.hash ++ B e.mac))
def En.zero : En := ⟨List.replicate 32 0, 0, List.replicate 32 0, List.replicate 32 0⟩
theorem En.zero_ok : En.zero.Ok := ⟨by simp [En.zero], by simp [En.zero], by simp [En.zero]⟩

section
variable {e : En} {b o : Value}
theorem En.Ok.front (h : e.Ok) : ([b] ++ B e.m1).length = 33 := by simp [B_length, h.h1]
theorem En.len (h : e.Ok) : (e.cells b o).length = 99 := by simp [En.cells, B_length, h.h1, h.h2, h.h3]
theorem En.c0 : (e.cells b o)[0]? = some b := rfl
theorem En.cm1 {j : Nat} {v : Value} (hj : (B e.m1)[j]? = some v) : (e.cells b o)[1 + j]? = some v := by
  rw [En.cells]
  refine get_front ?_
  rw [get_behind (by simp)]
  exact hj
theorem En.c33 (h : e.Ok) : (e.cells b o)[33]? = some (.int .i64 e.at_) := by
  rw [En.cells]
  exact get_behind h.front 0
theorem En.c34 (h : e.Ok) : (e.cells b o)[34]? = some o := by
  rw [En.cells]
  exact get_behind h.front 1
theorem En.chash (h : e.Ok) {j : Nat} {v : Value} (hj : (B e.hash)[j]? = some v) : (e.cells b o)[35 + j]? = some v := by
  rw [En.cells, show 35 + j = 33 + (2 + j) by omega, get_behind h.front, get_behind (by simp)]
  exact get_front hj
theorem En.cmac (h : e.Ok) {j : Nat} {v : Value} (hj : (B e.mac)[j]? = some v) : (e.cells b o)[67 + j]? = some v := by
  rw [En.cells, show 67 + j = 33 + (2 + (32 + j)) by omega, get_behind h.front, get_behind (by simp), get_behind (by simp [B_length, h.h2])]
  exact hj
theorem En.one (hb : b.oneCell' = true) (ho : o.oneCell' = true) : ∀ v ∈ e.cells b o, v.oneCell' = true := by
  intro v hv
  simp only [En.cells, List.mem_append, List.mem_cons, List.not_mem_nil, or_false] at hv
  rcases hv with (rfl | hv) | (rfl | rfl) | hv | hv
  all_goals first | rfl | exact hb | exact ho | exact B_one _ _ hv
end

/-- Block L holds an entry. -/
structure EnW (w : World) (t : TypeId) (L : Nat) (e : En) (b o : Value) : Prop where
  ok : e.Ok
  blk : Blk w t L (e.cells b o)
section
variable {w w' : World} {t : TypeId} {L : Nat} {e : En} {b o : Value}
theorem EnW.later (h : EnW w t L e b o) (hb : Below w.heap.size w w') : EnW w' t L e b o := ⟨h.ok, h.blk.later hb⟩
theorem EnW.kept (h : EnW w t L e b o) (hb : w'.heap[L]? = w.heap[L]?) : EnW w' t L e b o := ⟨h.ok, h.blk.kept hb⟩
theorem EnW.grown {r : Option Nat} (h : EnW w t L e b o) (hb : w.grownBy w' r) (hr : r ≠ some L) : EnW w' t L e b o := h.kept (hb.block L h.blk.lt (fun e => hr e.symm))
theorem EnW.lt (h : EnW w t L e b o) : L < w.heap.size := h.blk.lt
theorem EnW.whole (h : EnW w t L e b o) : w.rangeAt L 0 (e.cells b o) := h.blk.range fun j v hv => by rw [Nat.zero_add]; exact hv
theorem EnW.body (h : EnW w t L e b o) : w.cell? ⟨L, 0, none⟩ = some b := h.blk.cell (j := 0) rfl
theorem EnW.at_ (h : EnW w t L e b o) : w.cell? ⟨L, 33, none⟩ = some (.int .i64 e.at_) := h.blk.cell (En.c33 h.ok)
theorem EnW.op (h : EnW w t L e b o) : w.cell? ⟨L, 34, none⟩ = some o := h.blk.cell (En.c34 h.ok)
theorem EnW.m1 (h : EnW w t L e b o) : w.rangeAt L 1 (B e.m1) := h.blk.range fun j v hv => En.cm1 hv
theorem EnW.hash (h : EnW w t L e b o) : w.rangeAt L 35 (B e.hash) := h.blk.range fun j v hv => En.chash h.ok hv
theorem EnW.mac (h : EnW w t L e b o) : w.rangeAt L 67 (B e.mac) := h.blk.range fun j v hv => En.cmac h.ok hv
theorem EnW.frozen (h : EnW w t L e b o) (j : Nat) : w.frozen? ⟨L, j, none⟩ = false := h.blk.frozen j
theorem EnW.there (h : EnW w t L e b o) {j n : Nat} (hl : j + n ≤ 99) : w.there L j n := h.blk.there (by rw [En.len h.ok]; exact hl)
end

/-- What is signed of an entry. -/
def coreB (e : En) (body : List UInt8) (o : List Cp) : List UInt8 := tx body ++ e.m1 ++ i8 e.at_ ++ tx (opB o)
def coreN (n : Nat) (o : List Cp) : Nat := 45 + n + partsN o
theorem coreB_len {e : En} (h : e.Ok) (body : List UInt8) (o : List Cp) : (coreB e body o).length = coreN body.length o := by
  simp only [coreB, coreN, List.length_append, tx_len, i8_len, opB_len, h.h1]
  omega

/-- The three keys. -/
structure KW (w : World) (ks : List Value) (K : Nat → List UInt8) : Prop where
  len : ks.length = 3
  get : ∀ i, i < 3 → ∃ a n c, ks[i]? = some (.slice a n c) ∧ (K i).length = n ∧ n ≤ 100 ∧ c ≤ maxLen ∧ Reads w (.slice a n c) (B (K i))
theorem KW.later {w w' : World} {ks : List Value} {K : Nat → List UInt8} (h : KW w ks K) (hb : Below w.heap.size w w') : KW w' ks K := ⟨h.len, fun i hi => by
  obtain ⟨a, n, c, h1, h2, h3, h4, h5⟩ := h.get i hi
  exact ⟨a, n, c, h1, h2, h3, h4, h5.later hb⟩⟩
end Go.Proofs.YtinifnpajkldbaaDoor

/- The contract of room: a copy of what reads as xs, in a new row. -/
namespace Go.Proofs.YtinifnpajkldbaaDoor
open Go.RowKit

set_option maxRecDepth 100000 in
set_option maxHeartbeats 400000 in
theorem room_nat (v : Value) (xs : List Value) (more : Nat) (w : World) (hr : Reads w v xs) (h1 : ∀ u ∈ xs, u.oneCell' = true) (hb : xs.length + more ≤ 140737488355328) :
    Calls Tryd.prog 76 #[v, .int .i64 more] w fun e w' => ∃ g cap, e = .returned (.slice (some ⟨g, 0, none⟩) xs.length cap) ∧ w.heap.size ≤ g ∧ Owns w' 5 g cap xs.length xs ∧ Below w.heap.size w w' := by
  obtain ⟨i0, hi, hz0, hz1, hz2⟩ := info_parts Tryd.infoByte
  have HR : Hid (Reads w v xs) := hr
  obtain ⟨ao, c, rfl, hc, hn, hcell⟩ := hr
  clear hn hcell
  have hl : ∃ n, n = xs.length := ⟨_, rfl⟩
  obtain ⟨n, hn⟩ := hl
  rw [← hn] at hc hb HR ⊢
  have HN : Hid (n = xs.length) := hn
  clear hn
  have HL : Hid (∀ w1 w2 : World, w.grownBy w1 (some w.heap.size) → w1.grownBy w2 (some w.heap.size) → Below w.heap.size w w2 ∧ Reads w1 (.slice ao n c) xs) := by
    intro w1 w2 a b
    have b1 : Below w.heap.size w w1 := (Below.refl _ _).grown a (Nat.le_refl _) (fun k hk => by cases hk; exact Nat.le_refl _)
    exact ⟨b1.grown b a.size (fun k hk => by cases hk; exact Nat.le_refl _), HR.out.later b1⟩
  have h2 : Hid (∀ u ∈ xs, u.oneCell' = true) := h1
  clear h1
  go_enter Tryd.func76, Tryd.ntmps76
  go_wp2_with (first | (at_make; go_must (refine wpList_make_row _ rfl _ _ 22 rfl 5 i0 (.int .u8 0) Tryd.underlying22 hi hz0 hz1 hz2 .i64 .i64 _ _ n (n + more) rfl rfl rfl (by omega) (by omega) hb ?_); intro w1 zs hO1 hg1 hs1) | (show wpList _ _ _ (⟨_, Op.call ⟨Callee.builtin Builtin.copy, _, _⟩, _, _, _, _⟩ :: _) _ _; go_must (refine wpList_copy_row _ rfl _ _ 22 22 rfl 5 i0 Tryd.underlying22 hi hz1 w.heap.size (n + more) n zs rfl hO1 (.slice ao n c) xs rfl (HL.out _ _ hg1 (World.grownBy.refl _ _)).2 HN.out.symm h2.out ?_); intro w2 hO2 hg2 hs2))
  go_ret
  exact ⟨w.heap.size, n + more, rfl, Nat.le_refl _, hO2, (HL.out _ _ hg1 hg2).1⟩

theorem room_any (v : Value) (xs : List Value) (more : Int) (h0 : 0 ≤ more) (w : World) (hr : Reads w v xs) (h1 : ∀ u ∈ xs, u.oneCell' = true) (hb : xs.length + more ≤ 140737488355328) :
    Calls Tryd.prog 76 #[v, .int .i64 more] w fun e w' => ∃ g cap, e = .returned (.slice (some ⟨g, 0, none⟩) xs.length cap) ∧ w.heap.size ≤ g ∧ Owns w' 5 g cap xs.length xs ∧ Below w.heap.size w w' := by
  obtain ⟨m, rfl⟩ := Int.eq_ofNat_of_zero_le h0
  exact room_nat v xs m w hr h1 (by omega)
end Go.Proofs.YtinifnpajkldbaaDoor

/- The contracts of Int, Byte and Text: what is written stands in a new row behind what was there. -/
namespace Go.Proofs.YtinifnpajkldbaaDoor
open Go.RowKit

theorem wrapu (n : Int) : IntKind.u64.wrap n = n % 18446744073709551616 := by simp [IntKind.wrap_u64]
theorem wrapu_lo (n : Int) : 0 ≤ IntKind.u64.wrap n := by rw [wrapu]; omega
theorem wrapu_hi (n : Int) : IntKind.u64.wrap n < 18446744073709551616 := by rw [wrapu]; omega
theorem Grew.ge {e : TypeId} {w w' : World} {g cap n g' cap' n' Bd : Nat} {xs xs' : List Value} (h : Grew e w g cap n xs w' g' cap' n' xs') (h1 : Bd ≤ g) (h2 : Bd ≤ w.heap.size) : Bd ≤ g' := by
  rcases h.blk with ⟨rfl, _⟩ | hb <;> omega

set_option maxRecDepth 100000 in
set_option maxHeartbeats 400000 in
theorem wInt_any (v : Value) (xs : List Value) (n : Int) (w : World) (hr : Reads w v xs) (h1 : ∀ u ∈ xs, u.oneCell' = true) (hb : xs.length + 8 ≤ 140737488355328) :
    Calls Tryd.prog 52 #[v, .int .i64 n] w fun e w' => ∃ g cap, e = .returned (.slice (some ⟨g, 0, none⟩) (xs.length + 8) cap) ∧ w.heap.size ≤ g ∧ Owns w' 5 g cap (xs.length + 8) (xs ++ B (le 8 (n % 18446744073709551616).toNat)) ∧ Below w.heap.size w w' := by
  go_enter Tryd.func52, Tryd.ntmps52
  go_wp2_with fail
  refine (room_any v xs 8 (by omega) _ hr h1 (by omega)).mono ?_
  rintro e w1 ⟨g, cap, rfl, hg, ho, hb1⟩
  go_wp2_with fail
  refine (split_any g cap _ xs _ 8 (wrapu_lo n) (wrapu_hi n) (by omega) (by omega) (by omega) _ ho).mono ?_
  rintro e w2 ⟨g2, cap2, rfl, hG⟩
  go_wp2_with fail
  go_ret
  exact ⟨g2, cap2, rfl, hG.ge hg hb1.size, by have := hG.own; rwa [wrapu] at this, hG.below hb1 hg⟩

set_option maxRecDepth 100000 in
set_option maxHeartbeats 400000 in
theorem wByte_any (v : Value) (xs : List Value) (n : Int) (w : World) (hr : Reads w v xs) (h1 : ∀ u ∈ xs, u.oneCell' = true) (hb : xs.length + 1 ≤ 140737488355328) :
    Calls Tryd.prog 60 #[v, .int .i64 n] w fun e w' => ∃ g cap, e = .returned (.slice (some ⟨g, 0, none⟩) (xs.length + 1) cap) ∧ w.heap.size ≤ g ∧ Owns w' 5 g cap (xs.length + 1) (xs ++ B (le 1 (n % 18446744073709551616).toNat)) ∧ Below w.heap.size w w' := by
  go_enter Tryd.func60, Tryd.ntmps60
  go_wp2_with fail
  refine (room_any v xs 1 (by omega) _ hr h1 (by omega)).mono ?_
  rintro e w1 ⟨g, cap, rfl, hg, ho, hb1⟩
  go_wp2_with fail
  refine (split_any g cap _ xs _ 1 (wrapu_lo n) (wrapu_hi n) (by omega) (by omega) (by omega) _ ho).mono ?_
  rintro e w2 ⟨g2, cap2, rfl, hG⟩
  go_wp2_with fail
  go_ret
  exact ⟨g2, cap2, rfl, hG.ge hg hb1.size, by have := hG.own; rwa [wrapu] at this, hG.below hb1 hg⟩


set_option maxRecDepth 100000 in
set_option maxHeartbeats 400000 in
theorem wText_short (v : Value) (xs : List Value) (s : ByteArray) (w : World) (hr : Reads w v xs) (h1 : ∀ u ∈ xs, u.oneCell' = true) (hs : s.size ≤ 65535) (hb : xs.length + s.size + 2 ≤ 140737488355328) :
    Calls Tryd.prog 51 #[v, .string s] w fun e w' => ∃ g cap, e = .returned (.slice (some ⟨g, 0, none⟩) (xs.length + 2 + s.size) cap) ∧ w.heap.size ≤ g ∧
      Owns w' 5 g cap (xs.length + 2 + s.size) (xs ++ B (le 2 s.size) ++ B s.data.toList) ∧ Below w.heap.size w w' := by
  obtain ⟨i0, hi, hz0, hz1, hz2⟩ := info_parts Tryd.infoByte
  have hs' : (s.size : Int) ≤ 65535 := by omega
  go_enter Tryd.func51, Tryd.ntmps51
  go_wp2_with fail
  refine (room_any v xs _ (by omega) _ hr h1 (by omega)).mono ?_
  rintro e w1 ⟨g, cap, rfl, hg, ho, hb1⟩
  go_wp2_with fail
  refine (split_any g cap _ xs _ 2 (by omega) (by omega) (by omega) (by omega) (by omega) _ ho).mono ?_
  rintro e w2 ⟨g2, cap2, rfl, hG⟩
  go_wp2_with (at_builtin; go_must (refine wpList_append_src _ rfl _ _ 22 9 rfl 5 i0 (.int .u8 0) Tryd.underlying22 hi hz0 hz1 hz2 rfl g2 cap2 (xs.length + 2) _ rfl hG.own _ _ _ rfl (Src.ofString _ Tryd.underlying9 s) (by omega) ?_); intro g3 cap3 w3 hG3)
  go_ret
  have hT := hG.trans hG3
  refine ⟨g3, cap3, rfl, hT.ge hg hb1.size, ?_, hT.below hb1 hg⟩
  have h3 := hG3.own
  exact h3

set_option maxRecDepth 100000 in
set_option maxHeartbeats 400000 in
theorem wText_long (v : Value) (xs : List Value) (s : ByteArray) (w : World) (hr : Reads w v xs) (h1 : ∀ u ∈ xs, u.oneCell' = true) (hs : 65535 < s.size) (hm : s.size ≤ maxLen) (hb : xs.length + 65537 ≤ 140737488355328) :
    Calls Tryd.prog 51 #[v, .string s] w fun e w' => ∃ g cap, e = .returned (.slice (some ⟨g, 0, none⟩) (xs.length + 2 + min 65535 s.size) cap) ∧ w.heap.size ≤ g ∧
      Owns w' 5 g cap (xs.length + 2 + min 65535 s.size) (xs ++ B (le 2 (min 65535 s.size)) ++ B (s.extract 0 65535).data.toList) ∧ Below w.heap.size w w' := by
  obtain ⟨i0, hi, hz0, hz1, hz2⟩ := info_parts Tryd.infoByte
  unfold maxLen at hm
  have hs' : (65535 : Int) < s.size := by omega
  have hsz := hid (show (s.extract 0 65535).size = min 65535 s.size by rw [ByteArray.size_extract]; omega)
  go_enter Tryd.func51, Tryd.ntmps51
  go_wp2_with fail
  refine (room_any v xs _ (by omega) _ hr h1 (by omega)).mono ?_
  rintro e w1 ⟨g, cap, rfl, hg, ho, hb1⟩
  go_wp2_with fail
  refine (split_any g cap _ xs _ 2 (by omega) (by omega) (by omega) (by omega) (by omega) _ ho).mono ?_
  rintro e w2 ⟨g2, cap2, rfl, hG⟩
  have HS := hid (hsz.out ▸ Src.ofString (P := Tryd.prog) w2 Tryd.underlying9 (s.extract 0 65535))
  go_wp2_with (at_builtin; go_must (refine wpList_append_src _ rfl _ _ 22 9 rfl 5 i0 (.int .u8 0) Tryd.underlying22 hi hz0 hz1 hz2 rfl g2 cap2 (xs.length + 2) _ rfl hG.own _ _ _ rfl HS.out (by omega) ?_); intro g3 cap3 w3 hG3)
  go_ret
  have hT := hG.trans hG3
  exact ⟨g3, cap3, rfl, hT.ge hg hb1.size, hG3.own, hT.below hb1 hg⟩

theorem le_length : ∀ (k u : Nat), (le k u).length = k
  | 0, _ => rfl
  | k + 1, u => by rw [le, List.length_cons, le_length k]

theorem cInt (v : Value) (l : List UInt8) (k : Nat) (hk : l.length = k) (n : Int) (w : World) (hr : Reads w v (B l)) (hb : k + 8 ≤ 140737488355328) :
    Calls Tryd.prog 52 #[v, .int .i64 n] w fun e w' => ∃ g cap, e = .returned (.slice (some ⟨g, 0, none⟩) (k + 8) cap) ∧ w.heap.size ≤ g ∧ Owns w' 5 g cap (k + 8) (B (l ++ le 8 (n % 18446744073709551616).toNat)) ∧ Below w.heap.size w w' := by
  subst hk
  refine (wInt_any v (B l) n w hr (B_one l) (by rw [B_length]; exact hb)).mono ?_
  rintro e w' ⟨g, cap, rfl, h1, h2, h3⟩
  rw [B_length, ← B_append] at h2
  rw [B_length]
  exact ⟨g, cap, rfl, h1, h2, h3⟩

theorem cByte (v : Value) (l : List UInt8) (k : Nat) (hk : l.length = k) (n : Int) (w : World) (hr : Reads w v (B l)) (hb : k + 1 ≤ 140737488355328) :
    Calls Tryd.prog 60 #[v, .int .i64 n] w fun e w' => ∃ g cap, e = .returned (.slice (some ⟨g, 0, none⟩) (k + 1) cap) ∧ w.heap.size ≤ g ∧ Owns w' 5 g cap (k + 1) (B (l ++ le 1 (n % 18446744073709551616).toNat)) ∧ Below w.heap.size w w' := by
  subst hk
  refine (wByte_any v (B l) n w hr (B_one l) (by rw [B_length]; exact hb)).mono ?_
  rintro e w' ⟨g, cap, rfl, h1, h2, h3⟩
  rw [B_length, ← B_append] at h2
  rw [B_length]
  exact ⟨g, cap, rfl, h1, h2, h3⟩

theorem cText (v : Value) (l : List UInt8) (k : Nat) (hk : l.length = k) (s : ByteArray) (w : World) (hr : Reads w v (B l)) (hs : s.size ≤ 65535) (hb : k + s.size + 2 ≤ 140737488355328) :
    Calls Tryd.prog 51 #[v, .string s] w fun e w' => ∃ g cap, e = .returned (.slice (some ⟨g, 0, none⟩) (k + 2 + s.size) cap) ∧ w.heap.size ≤ g ∧ Owns w' 5 g cap (k + 2 + s.size) (B (l ++ le 2 s.size ++ s.data.toList)) ∧ Below w.heap.size w w' := by
  subst hk
  refine (wText_short v (B l) s w hr (B_one l) hs (by rw [B_length]; exact hb)).mono ?_
  rintro e w' ⟨g, cap, rfl, h1, h2, h3⟩
  rw [B_length, ← B_append, ← B_append] at h2
  rw [B_length]
  exact ⟨g, cap, rfl, h1, h2, h3⟩

theorem size_toList (s : ByteArray) : s.data.toList.length = s.size := by rw [Array.length_toList]; rfl

theorem cTextAll (v : Value) (l : List UInt8) (k : Nat) (hk : l.length = k) (s : ByteArray) (w : World) (hr : Reads w v (B l)) (hm : s.size ≤ maxLen) (hb : k + 65537 ≤ 140737488355328) :
    Calls Tryd.prog 51 #[v, .string s] w fun e w' => ∃ g cap, e = .returned (.slice (some ⟨g, 0, none⟩) (k + 2 + min 65535 s.size) cap) ∧ w.heap.size ≤ g ∧ Owns w' 5 g cap (k + 2 + min 65535 s.size) (B (l ++ le 2 (min 65535 s.size) ++ s.data.toList.take 65535)) ∧ Below w.heap.size w w' := by
  by_cases hs : s.size ≤ 65535
  · have e1 : min 65535 s.size = s.size := by omega
    have e2 : s.data.toList.take 65535 = s.data.toList := List.take_of_length_le (by rw [size_toList]; exact hs)
    rw [e1, e2]
    exact cText v l k hk s w hr hs (by omega)
  · subst hk
    have e2 : (s.extract 0 65535).data.toList = s.data.toList.take 65535 := by simp [ByteArray.data_extract]
    refine (wText_long v (B l) s w hr (B_one l) (by omega) hm (by rw [B_length]; omega)).mono ?_
    rintro e w' ⟨g, cap, rfl, h1, h2, h3⟩
    rw [B_length, ← B_append, ← B_append, e2] at h2
    rw [B_length]
    exact ⟨g, cap, rfl, h1, h2, h3⟩
end Go.Proofs.YtinifnpajkldbaaDoor

/- The contracts of a Reader's Fail, End, take and Byte, of New and of bytes.Clone. -/
namespace Go.Proofs.YtinifnpajkldbaaDoor
open Go.RowKit
variable {N : Nat}

/-- What a Reader holds: what is left, and its error. -/
abbrev St := List UInt8 × Int

/-- A slice that reads as bytes, in a block below N (if there are any). -/
structure RdN (N : Nat) (w : World) (ao : Option Addr) (k cap : Nat) (l : List UInt8) : Prop where
  reads : Reads w (.slice ao k cap) (B l)
  blk : ∀ ad, ao = some ad → 0 < l.length → ad.block < N
theorem RdN.later {N : Nat} {w w1 : World} {ao : Option Addr} {k cap : Nat} {l : List UInt8} (h : RdN N w ao k cap l) (hb : Below w.heap.size w w1) : RdN N w1 ao k cap l := ⟨h.reads.later hb, h.blk⟩
theorem RdN.nil (N : Nat) (w : World) : RdN N w none 0 0 [] := ⟨Reads.nil _, fun ad h => by cases h⟩
/-- What reads as bytes lies in the heap. -/
theorem RdN.own {w : World} {ao : Option Addr} {k cap : Nat} {l : List UInt8} (h : Reads w (.slice ao k cap) (B l)) : RdN w.heap.size w ao k cap l := ⟨h, fun ad he h0 => by
  obtain ⟨a, c, e, h1, h2, h3⟩ := h
  injection e with e1 e2 e3
  subst e1
  cases l with
  | nil => simp at h0
  | cons b r =>
    have h4 := h3 ad he 0 (.int .u8 b.toNat) rfl
    rw [Addr.add_zero'] at h4
    by_cases hlt : ad.block < w.heap.size
    · exact hlt
    · simp [World.cell?, Array.getElem?_eq_none (Nat.le_of_not_lt hlt)] at h4⟩
theorem RdN.mono {N M : Nat} {w : World} {ao : Option Addr} {k cap : Nat} {l : List UInt8} (h : RdN N w ao k cap l) (hm : N ≤ M) : RdN M w ao k cap l := ⟨h.reads, fun ad h1 h2 => Nat.lt_of_lt_of_le (h.blk ad h1 h2) hm⟩
/-- A block from N on may be written to. -/
theorem RdN.apart {N : Nat} {w w' : World} {q : Nat} {ao : Option Addr} {k cap : Nat} {l : List UInt8} (h : RdN N w ao k cap l) (hg : w.grownBy w' (some q)) (hq : N ≤ q) : RdN N w' ao k cap l := ⟨by
  obtain ⟨a, c, e, h1, h2, h3⟩ := h.reads
  injection e with e1 e2 e3
  subst e1 e2 e3
  refine ⟨ao, cap, rfl, h1, h2, fun ad he j u hj => hg.cell (h3 ad he j u hj) ?_⟩
  have hl : 0 < l.length := by
    have := (List.getElem?_eq_some_iff.1 hj).1
    rw [B_length] at this
    omega
  have := h.blk ad he hl
  intro hb
  have hb' : (ad.add j).block = q := by simpa using hb
  have hc : (ad.add j).block = ad.block := by unfold Addr.add; split <;> rfl
  omega, h.blk⟩

/-- A Reader in block p. -/
def RD (N : Nat) (w : World) (p : Nat) (s : St) : Prop :=
  ∃ ao cap, w.heap[p]? = some (.cells #[.slice ao s.1.length cap, .int .i64 s.2] 124 (0, 0)) ∧ RdN N w ao s.1.length cap s.1

section
variable {w w' : World} {p : Nat} {s : St}

theorem cells2 {v0 v1 : Value} {t : TypeId} (h : w.heap[p]? = some (.cells #[v0, v1] t (0, 0))) :
    w.cell? ⟨p, 0, none⟩ = some v0 ∧ w.cell? ⟨p, 1, none⟩ = some v1 ∧ w.frozen? ⟨p, 0, none⟩ = false ∧ w.frozen? ⟨p, 1, none⟩ = false := by
  simp [World.cell?, World.frozen?, h]

theorem set2_0 {v0 v1 u : Value} {t : TypeId} (h : w.heap[p]? = some (.cells #[v0, v1] t (0, 0))) : (w.setCell ⟨p, 0, none⟩ u).heap[p]? = some (.cells #[u, v1] t (0, 0)) := by
  rw [setCell_eq_setRow w p 0 #[v0, v1] t (0, 0) u h]
  exact setRow_heap w p _ _ t _ h

theorem set2_1 {v0 v1 u : Value} {t : TypeId} (h : w.heap[p]? = some (.cells #[v0, v1] t (0, 0))) : (w.setCell ⟨p, 1, none⟩ u).heap[p]? = some (.cells #[v0, u] t (0, 0)) := by
  rw [setCell_eq_setRow w p 1 #[v0, v1] t (0, 0) u h]
  exact setRow_heap w p _ _ t _ h

theorem grownC (w : World) (p off : Nat) (u : Value) : w.grownBy (w.setCell ⟨p, off, none⟩ u) (some p) :=
  ⟨rfl, rfl, rfl, by simp [World.setCell], fun k _ hne => Below.heap_setCell w _ u k (fun e => hne (by simp [e]))⟩

theorem grownT {w w1 w2 : World} {r : Option Nat} (a : w.grownBy w1 r) (b : w1.grownBy w2 r) : w.grownBy w2 r :=
  ⟨b.os.trans a.os, b.tape.trans a.tape, b.output.trans a.output, Nat.le_trans a.size b.size, fun k hk hne => by rw [b.block k (Nat.lt_of_lt_of_le hk a.size) hne, a.block k hk hne]⟩

/-- What reads as bytes does not lie in a block of a slice and a number: writing there leaves it. -/
theorem Reads.off {v0 v : Value} {t : TypeId} {n : Int} {ao : Option Addr} {k c : Nat} {l : List UInt8} (hv : v0 = .slice ao k c) (h : w.heap[p]? = some (.cells #[v0, .int .i64 n] t (0, 0))) (hr : Reads w v (B l)) (hg : w.grownBy w' (some p)) : Reads w' v (B l) := by
  subst hv
  obtain ⟨ao, cap, rfl, hc, hn, hcell⟩ := hr
  refine ⟨ao, cap, rfl, hc, hn, fun ad he j u hj => ?_⟩
  have hx := hcell ad he j u hj
  refine hg.cell hx ?_
  intro hb
  have hb' : (ad.add j).block = p := by simpa using hb
  rw [B_get] at hj
  cases hl : l[j]? with
  | none => rw [hl] at hj; cases hj
  | some b =>
    rw [hl] at hj
    simp only [Option.map_some, Option.some.injEq] at hj
    subst hj
    simp only [World.cell?, hb', h] at hx
    split at hx
    · cases hx
    · generalize (ad.add j).off = o at hx
      match o, hx with
      | 0, hx => simp at hx
      | 1, hx => simp at hx
      | o + 2, hx => simp at hx

theorem RD.lt (h : RD N w p s) : p < w.heap.size := by
  obtain ⟨ao, cap, hh, _⟩ := h
  exact (Array.getElem?_eq_some_iff.1 hh).1

theorem RD.later (h : RD N w p s) (hb : Below w.heap.size w w') : RD N w' p s := by
  have hl := h.lt
  obtain ⟨ao, cap, hh, hr⟩ := h
  exact ⟨ao, cap, by rw [hb.block p hl]; exact hh, hr.later hb⟩

theorem RD.mono {M : Nat} (h : RD N w p s) (hm : N ≤ M) : RD M w p s := by
  obtain ⟨ao, cap, hh, hr⟩ := h
  exact ⟨ao, cap, hh, hr.mono hm⟩
theorem RD.own (h : RD N w p s) : RD w.heap.size w p s := by
  obtain ⟨ao, cap, hh, hr⟩ := h
  exact ⟨ao, cap, hh, RdN.own hr.reads⟩
/-- A block from N on, another than the Reader's, may be written to. -/
theorem RD.apart {q : Nat} (h : RD N w p s) (hg : w.grownBy w' (some q)) (hq : N ≤ q) (hne : p ≠ q) : RD N w' p s := by
  have hl := h.lt
  obtain ⟨ao, cap, hh, hr⟩ := h
  exact ⟨ao, cap, by rw [hg.block p hl (by simpa using hne)]; exact hh, hr.apart hg hq⟩

theorem RD.other {p' : Nat} {s' : St} (h : RD N w p s) (h' : RD N w p' s') (hg : w.grownBy w' (some p')) (hne : p ≠ p') : RD N w' p s := by
  have hl := h.lt
  obtain ⟨ao, cap, hh, hr⟩ := h
  obtain ⟨ao', cap', hh', _⟩ := h'
  exact ⟨ao, cap, by rw [hg.block p hl (by simpa using hne)]; exact hh, Reads.off rfl hh' hr.reads hg, hr.blk⟩
end

theorem below_at {a w w' : World} {p : Nat} (hb : Below a.heap.size a w) (hg : w.grownBy w' (some p)) (hp : a.heap.size ≤ p) : Below a.heap.size a w' :=
  hb.grown hg hb.size (fun k hk => by cases hk; exact hp)

def failS (s : St) (e : Int) : St := if s.2 = 0 ∧ e ≠ 0 then ([], e) else s
def endS (s : St) : Int := if s.2 = 0 ∧ s.1 ≠ [] then 9 else s.2

set_option maxRecDepth 100000 in
set_option maxHeartbeats 400000 in
theorem End_any (p : Nat) (s : St) (w : World) (hR : RD N w p s) (hm : s.1.length ≤ maxLen) : Calls Tryd.prog 64 #[.pointer (some ⟨p, 0, none⟩)] w fun e w' => e = .returned (.int .i64 (endS s)) ∧ w' = w := by
  obtain ⟨l, err⟩ := s
  obtain ⟨ao, cap, hh, hr⟩ := hR
  obtain ⟨c0, c1, f0, f1⟩ := cells2 hh
  clear hh hr f0 f1
  unfold maxLen at hm
  simp only at c0 c1 hm
  by_cases he : err = 0
  · subst he
    by_cases hl : 0 < (l.length : Int)
    · have HE : Hid (endS (l, 0) = 9) := by
        have : l ≠ [] := by intro h; subst h; simp at hl
        show endS (l, 0) = 9
        simp [endS, this]
      go_enter Tryd.func64, Tryd.ntmps64
      go_wp2
      go_ret
      exact ⟨by rw [HE.out]; rfl, rfl⟩
    · have hl' : (l.length : Int) ≤ 0 := by omega
      have HE : Hid (endS (l, 0) = 0) := by
        have : l = [] := List.eq_nil_of_length_eq_zero (by omega)
        show endS (l, 0) = 0
        simp [endS, this]
      go_enter Tryd.func64, Tryd.ntmps64
      go_wp2
      go_ret
      exact ⟨by rw [HE.out]; rfl, rfl⟩
  · have he' : (err == 0) = false := by simpa using he
    have HE : Hid (endS (l, err) = err) := by
      show endS (l, err) = err
      simp [endS, he]
    go_enter Tryd.func64, Tryd.ntmps64
    go_wp2
    go_ret
    exact ⟨by rw [HE.out]; rfl, rfl⟩

set_option maxRecDepth 100000 in
set_option maxHeartbeats 400000 in
theorem Fail_any (p : Nat) (s : St) (e : Int) (w : World) (hR : RD N w p s) :
    Calls Tryd.prog 96 #[.pointer (some ⟨p, 0, none⟩), .int .i64 e] w fun x w' => x = .returned (.tuple #[]) ∧ RD N w' p (failS s e) ∧ w.grownBy w' (some p) := by
  obtain ⟨l, err⟩ := s
  have HR : Hid (RD N w p (l, err)) := hR
  obtain ⟨ao, cap, hh, hr⟩ := hR
  obtain ⟨c0, c1, f0, f1⟩ := cells2 hh
  have HH : Hid (w.heap[p]? = some (.cells #[.slice ao l.length cap, .int .i64 err] 124 (0, 0))) := hh
  clear hh hr
  simp only at c0 c1
  by_cases he : err = 0
  · subst he
    by_cases h0 : e = 0
    · subst h0
      go_enter Tryd.func96, Tryd.ntmps96
      go_wp2
      refine bodyPost_ret (results_none rfl _ _ _) rfl ?_
      exact ⟨rfl, by simpa [failS] using HR.out, World.grownBy.refl _ _⟩
    · have h0' : (e == 0) = false := by simpa using h0
      go_enter Tryd.func96, Tryd.ntmps96
      go_wp2
      go_end0
      refine ⟨rfl, ?_, grownT (grownC _ _ _ _) (grownC _ _ _ _)⟩
      exact ⟨none, 0, by simpa [failS, h0] using set2_0 (set2_1 HH.out), by simpa [failS, h0] using RdN.nil N _⟩
  · have he' : (err == 0) = false := by simpa using he
    have he2 : (err != 0) = true := by simpa using he
    go_enter Tryd.func96, Tryd.ntmps96
    go_wp2
    refine bodyPost_ret (results_none rfl _ _ _) rfl ?_
    exact ⟨rfl, by simpa [failS, he] using HR.out, World.grownBy.refl _ _⟩
end Go.Proofs.YtinifnpajkldbaaDoor
