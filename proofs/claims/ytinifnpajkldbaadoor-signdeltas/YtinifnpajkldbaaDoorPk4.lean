/- Texts laid together: RefWrite, Has, RefHas, HasC. -/
import Derived.Test.YtinifnpajkldbaaDoorPk3
import Derived.Test.YtinifnpajkldbaaDoorPk0
import Derived.Test.YtinifnpajkldbaaDoorPk2
import Derived.Test.YtinifnpajkldbaaDoorPk1
import Derived.Test.YtinifnpajkldbaaDoorRows

/- The contracts of the second say of Int, Byte and Text: appends onto a row. -/
namespace Go.Proofs.YtinifnpajkldbaaDoor
open Go.RowKit

theorem le_snoc : ∀ (k u : Nat), le (k + 1) u = le k u ++ [UInt8.ofNat (u / 256 ^ k)]
  | 0, u => by simp [le]
  | k + 1, u => by
    rw [le, le_snoc k (u / 256)]
    conv => rhs; rw [le]
    rw [List.cons_append, Nat.div_div_eq_div_mul, Nat.pow_succ, Nat.mul_comm (256 ^ k) 256]

theorem byte_at (n : Int) (k : Nat) : [Value.int IntKind.u8 (IntKind.u64.wrap n / 2 ^ (8 * k) % 256)] = B [UInt8.ofNat ((n % 18446744073709551616).toNat / 256 ^ k)] := by
  have e0 : IntKind.u64.wrap n = (((n % 18446744073709551616).toNat : Nat) : Int) := by rw [IntKind.wrap_u64]; omega
  have e1 : (2 : Int) ^ (8 * k) = ((256 ^ k : Nat) : Int) := by rw [pow_256]; exact (Int.natCast_pow 2 (8 * k)).symm
  rw [e0, e1]
  simp only [B, List.map_cons, List.map_nil, UInt8.toNat_ofNat']
  generalize (n % 18446744073709551616).toNat = u
  generalize 256 ^ k = q
  rw [← Int.natCast_ediv]
  generalize u / q = z
  have : (z : Int) % 256 = ((z % 2 ^ 8 : Nat) : Int) := by omega
  rw [this]

set_option maxRecDepth 100000 in
set_option maxHeartbeats 400000 in
theorem fByte_any (g cap m : Nat) (l : List UInt8) (n : Int) (w : World) (ho : Owns w 5 g cap m (B l)) (hb : m + 1 ≤ 140737488355328) :
    Calls Tryd.prog 58 #[.slice (some ⟨g, 0, none⟩) m cap, .int .i64 n] w fun e w' => ∃ g' cap', e = .returned (.slice (some ⟨g', 0, none⟩) (m + 1) cap') ∧ Grew 5 w g cap m (B l) w' g' cap' (m + 1) (B (l ++ le 1 (n % 18446744073709551616).toNat)) := by
  obtain ⟨i0, hi, hz0, hz1, hz2⟩ := info_parts Tryd.infoByte
  go_enter Tryd.func58, Tryd.ntmps58
  go_wp2_with (at_builtin; go_must (refine wpList_append_src _ rfl _ _ 22 22 rfl 5 i0 (.int .u8 0) Tryd.underlying22 hi hz0 hz1 hz2 rfl g cap m _ rfl (ho.alloc _) _ 1 _ rfl (Src.ofSlice _ Tryd.underlying22 ⟨w.heap.size, 0, none⟩ 1 1 [_] rfl (cell_one_new _ _ _) (by intro u hu; simp at hu; subst hu; rfl)) hb ?_); intro g2 cap2 w2 hG2)
  go_ret
  have e1 : [Value.int IntKind.u8 (n % 256)] = B (le 1 (n % 18446744073709551616).toNat) := by
    simp only [le, B, List.map_cons, List.map_nil, UInt8.toNat_ofNat']
    congr 2
    omega
  have h := hG2.of_alloc ho.lt
  rw [e1, ← B_append] at h
  exact ⟨g2, cap2, rfl, h⟩

set_option maxRecDepth 100000 in
set_option maxHeartbeats 400000 in
theorem fInt_any (g cap m : Nat) (l : List UInt8) (n : Int) (w : World) (ho : Owns w 5 g cap m (B l)) (hb : m + 8 ≤ 140737488355328) :
    Calls Tryd.prog 55 #[.slice (some ⟨g, 0, none⟩) m cap, .int .i64 n] w fun e w' => ∃ g' cap', e = .returned (.slice (some ⟨g', 0, none⟩) (m + 8) cap') ∧ Grew 5 w g cap m (B l) w' g' cap' (m + 8) (B (l ++ le 8 (n % 18446744073709551616).toNat)) := by
  obtain ⟨i0, hi, hz0, hz1, hz2⟩ := info_parts Tryd.infoByte
  go_enter Tryd.func55, Tryd.ntmps55
  go_wp2_with fail
  go_loopw [0, 5] (fun v i wr => ∃ (k g1 cap1 : Nat), k ≤ 8 ∧ i = .int .i64 k ∧ v = .slice (some ⟨g1, 0, none⟩) (m + k) cap1 ∧ Grew 5 w g cap m (B l) wr g1 cap1 (m + k) (B (l ++ le k (n % 18446744073709551616).toNat))) (fun _ i _ => 8 - (intOf i).toNat)
  case atStart => exact ⟨0, g, cap, Nat.zero_le _, rfl, rfl, by simpa [le] using Grew.refl ho⟩
  case round =>
    obtain ⟨k, g1, cap1, hk, rfl, rfl, hG⟩ := hrel
    have HG := hid hG
    have hO := hG.own
    clear hG
    by_cases hlt : k < 8
    · have hlt' : (k : Int) < 8 := by omega
      go_wp2_with (at_builtin; go_must (refine wpList_append_src _ rfl _ _ 22 22 rfl 5 i0 (.int .u8 0) Tryd.underlying22 hi hz0 hz1 hz2 rfl g1 cap1 (m + k) _ rfl (hO.alloc _) _ 1 _ rfl (Src.ofSlice _ Tryd.underlying22 ⟨wr.heap.size, 0, none⟩ 1 1 [_] rfl (cell_one_new _ _ _) (by intro u hu; simp at hu; subst hu; rfl)) (by omega) ?_); intro g2 cap2 w2 hG2)
      go_roundw
      case rel =>
        have h := HG.out.trans (hG2.of_alloc hO.lt)
        rw [byte_at, ← B_append, List.append_assoc, ← le_snoc] at h
        exact ⟨k + 1, g2, cap2, by omega, by go_num, rfl, h⟩
      case measure => simp [intOf]; omega
    · have hk8 : k = 8 := by omega
      subst hk8
      clear hlt hk
      go_wp2_with fail
      go_ret
      exact ⟨g1, cap1, rfl, HG.out⟩

set_option maxRecDepth 100000 in
set_option maxHeartbeats 400000 in
theorem fText_short (g cap m : Nat) (l : List UInt8) (s : ByteArray) (w : World) (ho : Owns w 5 g cap m (B l)) (hs : s.size ≤ 65535) (hb : m + s.size + 2 ≤ 140737488355328) :
    Calls Tryd.prog 54 #[.slice (some ⟨g, 0, none⟩) m cap, .string s] w fun e w' => ∃ g' cap', e = .returned (.slice (some ⟨g', 0, none⟩) (m + 2 + s.size) cap') ∧ Grew 5 w g cap m (B l) w' g' cap' (m + 2 + s.size) (B (l ++ le 2 s.size ++ s.data.toList)) := by
  obtain ⟨i0, hi, hz0, hz1, hz2⟩ := info_parts Tryd.infoByte
  have hs' : (s.size : Int) ≤ 65535 := by omega
  have e2 : [Value.int IntKind.u8 ((s.size : Int) % 256), Value.int IntKind.u8 ((s.size : Int) / 256)] = B (le 2 s.size) := by
    have e1 : ((s.size : Int) % 256) = ((UInt8.ofNat s.size).toNat : Int) := by rw [UInt8.toNat_ofNat']; omega
    have e2 : ((s.size : Int) / 256) = ((UInt8.ofNat (s.size / 256)).toNat : Int) := by rw [UInt8.toNat_ofNat']; omega
    rw [e1, e2]
    rfl
  have HE := hid e2
  clear e2
  go_enter Tryd.func54, Tryd.ntmps54
  go_wp2_with (first
    | (at_builtin; refine wpList_append_src _ rfl (.tmp 10) (.tmp 18) 22 22 rfl 5 i0 (.int .u8 0) Tryd.underlying22 hi hz0 hz1 hz2 rfl g cap m _ rfl (ho.alloc _) _ 2 _ rfl (Src.ofSlice _ Tryd.underlying22 ⟨w.heap.size, 0, none⟩ 2 2 [_, _] rfl (fun j u hj => by rw [Addr.add_lit, Nat.zero_add]; exact (Owns.two w 5 _ _).cell hj) (by intro u hu; simp at hu; rcases hu with rfl | rfl <;> rfl)) (by omega) ?_; intro g2 cap2 w2 hG2)
    | (at_builtin; refine wpList_append_src _ rfl (.tmp 19) (.tmp 20) 22 9 rfl 5 i0 (.int .u8 0) Tryd.underlying22 hi hz0 hz1 hz2 rfl g2 cap2 (m + 2) _ rfl hG2.own _ _ _ rfl (Src.ofString _ Tryd.underlying9 s) (by omega) ?_; intro g3 cap3 w3 hG3))
  go_ret
  have h := (hG2.of_alloc ho.lt).trans hG3
  rw [HE.out, byteCells_B, ← B_append, ← B_append] at h
  exact ⟨g3, cap3, rfl, h⟩
end Go.Proofs.YtinifnpajkldbaaDoor

/- A slice of bytes that a call builds by appends from nil on, of no program. -/
namespace Go.Proofs.YtinifnpajkldbaaDoor
open Go.RowKit
set_option linter.unusedSimpArgs false
set_option linter.unusedVariables false

/-- The slice v is nil and xs is empty, or it is a row of n cells in a block from Bd on, which reads as xs. -/
def Has (w : World) (e : TypeId) (Bd : Nat) (v : Value) (n : Nat) (xs : List Value) : Prop :=
  (v = .slice none 0 0 ∧ n = 0 ∧ xs = []) ∨ ∃ g cap, v = .slice (some ⟨g, 0, none⟩) n cap ∧ Bd ≤ g ∧ Owns w e g cap n xs

section
variable {w w' : World} {e : TypeId} {Bd : Nat} {v : Value} {n : Nat} {xs : List Value}

theorem Has.nil (w : World) (e : TypeId) (Bd : Nat) : Has w e Bd (.slice none 0 0) 0 [] := .inl ⟨rfl, rfl, rfl⟩
theorem Has.later (h : Has w e Bd v n xs) (hb : Below w.heap.size w w') : Has w' e Bd v n xs := by
  rcases h with h | ⟨g, cap, rfl, h1, h2⟩
  · exact .inl h
  · exact .inr ⟨g, cap, rfl, h1, h2.later hb⟩
theorem Has.alloc (h : Has w e Bd v n xs) (o : Obj) : Has (w.alloc o) e Bd v n xs := by
  rcases h with h | ⟨g, cap, rfl, h1, h2⟩
  · exact .inl h
  · exact .inr ⟨g, cap, rfl, h1, h2.alloc o⟩
theorem Has.reads (h : Has w e Bd v n xs) : Reads w v xs := by
  rcases h with ⟨rfl, rfl, rfl⟩ | ⟨g, cap, rfl, _, h2⟩
  · exact ⟨none, 0, rfl, Nat.le_refl _, fun _ => rfl, fun _ h => by cases h⟩
  · exact h2.reads
theorem Has.len (h : Has w e Bd v n xs) : xs.length = n := by
  rcases h with ⟨rfl, rfl, rfl⟩ | ⟨g, cap, rfl, _, h2⟩
  · rfl
  · exact h2.1
/-- As a slice with letters in its place, so that the walk can run on. -/
theorem Has.form (h : Has w e Bd v n xs) : ∃ a cap, v = .slice a n cap := by
  rcases h with ⟨rfl, rfl, rfl⟩ | ⟨g, cap, rfl, _, h2⟩
  · exact ⟨_, _, rfl⟩
  · exact ⟨_, _, rfl⟩
end

section
variable {P : Program} (w : World)

theorem run_append_has (t tx ty e : TypeId) (i : TypeInfo) (z : Value) (ht : P.underlying t = some (.slice e)) (hi : P.info? e = some i) (hz : i.zero = some z)
    (hsize : i.size = 1) (hby : i.bytes = 1) (hzs : z.cells.size = 1)
    (Bd : Nat) (v : Value) (n : Nat) (xs : List Value) (hown : Has w e Bd v n xs) (hBd : Bd ≤ w.heap.size) (x : Value) (m : Nat) (news : List Value) (hs : Src P 1 tx x m news w)
    (hm : 0 < m) (hb : n + m ≤ 140737488355328) :
    ∃ v' w', (Builtin.append_ #[t, tx] ty #[v, x]).run P w = .ok v' w' ∧ Has w' e Bd v' (n + m) (xs ++ news) ∧ Below Bd w w' := by
  rcases hown with ⟨rfl, rfl, rfl⟩ | ⟨g, cap, rfl, h1, h2⟩
  · have hl : news.length = m := by simpa using hs.newsLen
    have hf : (Builtin.firstCells i.size 0 (.slice none 0 0)).run P w.drew = .ok ([] : List Value).toArray w.drew := by simp [Builtin.firstCells]
    have hgc := grownCap_ge w (0 + m) 0 e
    have hcm := grownCap_le_maxLen w (0 + m) 0 e (by unfold maxLen; omega)
    have hr := run_append_grow_src (P := P) w t tx ty e i z ht hi hz none 0 0 [] hf x m news (by rw [hsize]; exact hs) (by omega) (by omega) (growslice_fits (by omega) (by rw [hby]; omega))
    refine ⟨_, _, hr, .inr ⟨w.heap.size, grownCap w (0 + m) 0 e, rfl, hBd, ⟨by simp [hl], hgc, hcm, _, heap_alloc_new w.drew _, ?_, ?_⟩⟩, ?_⟩
    · simp only [Array.size_append, List.size_toArray, size_zeroCells, hzs, hl]
      simp only [List.nil_append, hl]
      omega
    · simp only [Array.toList_append, List.nil_append]
      rw [Nat.zero_add, ← hl]
      exact List.take_left
    · exact ⟨rfl, rfl, rfl, by simp, fun k hk => Below.heap_alloc w.drew _ k (by show k < w.heap.size; omega)⟩
  · obtain ⟨g', cap', w', hr, hG⟩ := run_append_src (P := P) w t tx ty e i z ht hi hz hsize hby hzs g cap n xs h2 x m news hs hb
    refine ⟨_, w', hr, .inr ⟨g', cap', rfl, ?_, hG.own⟩, hG.below (Below.refl _ _) h1⟩
    rcases hG.blk with ⟨rfl, _⟩ | hb'
    · exact h1
    · omega

theorem wpList_append_has {ops : Array Oper} {rest : List Oper} {o : Oper} {a : Act} {Q : Exit → Act → World → Prop} (hgd : o.guard = none) (s x : Operand) (t tx : TypeId)
    (ho : o.op = .call { callee := .builtin .append, args := #[s, x], argTypes := #[t, tx] })
    (e : TypeId) (i : TypeInfo) (z : Value) (ht : P.underlying t = some (.slice e)) (hi : P.info? e = some i) (hz : i.zero = some z) (hsize : i.size = 1) (hby : i.bytes = 1) (hzs : z.cells.size = 1)
    (Bd : Nat) (v : Value) (n : Nat) (xs : List Value) (hs : a.eval s = v) (hown : Has w e Bd v n xs) (hBd : Bd ≤ w.heap.size)
    (y : Value) (m : Nat) (news : List Value) (hx : a.eval x = y) (hsrc : Src P 1 tx y m news w) (hm : 0 < m) (hb : n + m ≤ 140737488355328)
    (h : ∀ v' w', Has w' e Bd v' (n + m) (xs ++ news) → Below Bd w w' → wpList P ops Q rest (a.put o.dst v') w') : wpList P ops Q (o :: rest) a w := by
  refine wpList_plain hgd fun K hK => ?_
  obtain ⟨v', w', hr, hH, hB⟩ := run_append_has (P := P) w t tx o.type e i z ht hi hz hsize hby hzs Bd v n xs hown hBd y m news hsrc hm hb
  unfold Oper.wp execOp
  simp only [ho, resolve, invoke, builtin, Sem.run_bind, Sem.run_pure, Result.andThen_ok, List.map_toArray, List.map_cons, List.map_nil, hs, hx, hr]
  exact hK _ _ (h v' w' hH hB)
end
end Go.Proofs.YtinifnpajkldbaaDoor

/- The second say's Byte, Int and Text behind any slice of the call's own, nil too. -/
namespace Go.Proofs.YtinifnpajkldbaaDoor
open Go.RowKit
set_option linter.unusedSimpArgs false
set_option linter.unusedVariables false

theorem has_of_grew {w w' : World} {Bd g cap n g' cap' n' : Nat} {e : TypeId} {xs xs' : List Value} (h : Grew e w g cap n xs w' g' cap' n' xs') (hB : Bd ≤ g) (hs : Bd ≤ w.heap.size) : Has w' e Bd (.slice (some ⟨g', 0, none⟩) n' cap') n' xs' ∧ Below Bd w w' :=
  ⟨.inr ⟨g', cap', rfl, by rcases h.blk with ⟨rfl, _⟩ | hb; exact hB; omega, h.own⟩, h.below (Below.refl _ _) hB⟩

set_option maxRecDepth 100000 in
set_option maxHeartbeats 400000 in
theorem fByte_has (Bd : Nat) (v : Value) (m : Nat) (l : List UInt8) (n : Int) (w : World) (hH : Has w 5 Bd v m (B l)) (hB : Bd ≤ w.heap.size) (hb : m + 1 ≤ 140737488355328) :
    Calls Tryd.prog 58 #[v, .int .i64 n] w fun e w' => ∃ v', e = .returned v' ∧ Has w' 5 Bd v' (m + 1) (B (l ++ i1 n)) ∧ Below Bd w w' := by
  rcases hH with ⟨rfl, rfl, hx⟩ | ⟨g, cap, rfl, h1, h2⟩
  · obtain ⟨i0, hi, hz0, hz1, hz2⟩ := info_parts Tryd.infoByte
    have hl : l = [] := by cases l with | nil => rfl | cons => simp [B] at hx
    subst hl
    have e1 := hid (show [Value.int IntKind.u8 (n % 256)] = B (i1 n) by
      simp only [i1, le, B, List.map_cons, List.map_nil, UInt8.toNat_ofNat']
      congr 2
      omega)
    go_enter Tryd.func58, Tryd.ntmps58
    go_wp2_with (at_builtin; go_must (refine wpList_append_has _ rfl _ _ 22 22 rfl 5 i0 (.int .u8 0) Tryd.underlying22 hi hz0 hz1 hz2 rfl Bd (.slice none 0 0) 0 [] rfl (Has.nil _ _ _) (by simp; omega) _ 1 [.int .u8 (n % 256)] rfl (Src.ofSlice _ Tryd.underlying22 ⟨w.heap.size, 0, none⟩ 1 1 [_] rfl (cell_one_new _ _ _) (by intro u hu; simp at hu; subst hu; rfl)) (by omega) (by omega) ?_); intro v2 w2 hH2 hb2)
    go_ret
    rw [e1.out] at hH2
    exact ⟨v2, rfl, by simpa using hH2, ((Below.refl _ _).alloc hB _).trans hb2⟩
  · refine (fByte_any g cap m l n w h2 hb).mono ?_
    rintro e w' ⟨g', cap', rfl, hG⟩
    exact ⟨_, rfl, has_of_grew hG h1 hB⟩

set_option maxRecDepth 100000 in
set_option maxHeartbeats 400000 in
theorem fInt_has (Bd : Nat) (v : Value) (m : Nat) (l : List UInt8) (n : Int) (w : World) (hH : Has w 5 Bd v m (B l)) (hB : Bd ≤ w.heap.size) (hb : m + 8 ≤ 140737488355328) :
    Calls Tryd.prog 55 #[v, .int .i64 n] w fun e w' => ∃ v', e = .returned v' ∧ Has w' 5 Bd v' (m + 8) (B (l ++ i8 n)) ∧ Below Bd w w' := by
  obtain ⟨i0, hi, hz0, hz1, hz2⟩ := info_parts Tryd.infoByte
  have HH := hid hH
  obtain ⟨a, cap, rfl⟩ := hH.form
  clear hH
  go_enter Tryd.func55, Tryd.ntmps55
  go_wp2_with fail
  go_loopw [0, 5] (fun v i wr => ∃ k : Nat, k ≤ 8 ∧ i = .int .i64 k ∧ Has wr 5 Bd v (m + k) (B (l ++ le k (n % 18446744073709551616).toNat)) ∧ Below Bd w wr) (fun _ i _ => 8 - (intOf i).toNat)
  case atStart => exact ⟨0, Nat.zero_le _, rfl, by simpa [le] using HH.out, Below.refl _ _⟩
  case round =>
    obtain ⟨k, hk, rfl, hH, hbr⟩ := hrel
    obtain ⟨a1, cap1, rfl⟩ := hH.form
    have HH := hid hH
    have Hb := hid hbr
    have HS := hid (show Bd ≤ wr.heap.size from Nat.le_trans hB hbr.size)
    clear hH hbr
    by_cases hlt : k < 8
    · have hlt' : (k : Int) < 8 := by omega
      go_wp2_with (at_builtin; go_must (refine wpList_append_has _ rfl _ _ 22 22 rfl 5 i0 (.int .u8 0) Tryd.underlying22 hi hz0 hz1 hz2 rfl Bd _ (m + k) _ rfl (HH.out.alloc _) (by have := HS.out; simp; omega) _ 1 _ rfl (Src.ofSlice _ Tryd.underlying22 ⟨wr.heap.size, 0, none⟩ 1 1 [_] rfl (cell_one_new _ _ _) (by intro u hu; simp at hu; subst hu; rfl)) (by omega) (by omega) ?_); intro v2 w2 hH2 hb2)
      go_roundw
      case rel =>
        have h := hH2
        rw [byte_at, ← B_append, List.append_assoc, ← le_snoc] at h
        exact ⟨k + 1, by omega, by go_num, h, (Hb.out.alloc HS.out _).trans hb2⟩
      case measure => simp [intOf]; omega
    · have hk8 : k = 8 := by omega
      subst hk8
      clear hlt hk
      go_wp2_with fail
      go_ret
      exact ⟨_, rfl, HH.out, Hb.out⟩

theorem fText_has (Bd g cap m : Nat) (l : List UInt8) (s : ByteArray) (w : World) (ho : Owns w 5 g cap m (B l)) (hg : Bd ≤ g) (hB : Bd ≤ w.heap.size) (hs : s.size ≤ 65535) (hb : m + s.size + 2 ≤ 140737488355328) :
    Calls Tryd.prog 54 #[.slice (some ⟨g, 0, none⟩) m cap, .string s] w fun e w' => ∃ v', e = .returned v' ∧ Has w' 5 Bd v' (m + 2 + s.size) (B (l ++ le 2 s.size ++ s.data.toList)) ∧ Below Bd w w' := by
  refine (fText_short g cap m l s w ho hs hb).mono ?_
  rintro e w' ⟨g', cap', rfl, hG⟩
  exact ⟨_, rfl, has_of_grew hG hg hB⟩
theorem Has.owns {w : World} {e : TypeId} {Bd : Nat} {v : Value} {n : Nat} {xs : List Value} (h : Has w e Bd v n xs) (h0 : 0 < n) : ∃ g cap, v = .slice (some ⟨g, 0, none⟩) n cap ∧ Bd ≤ g ∧ Owns w e g cap n xs := by
  rcases h with ⟨rfl, rfl, rfl⟩ | h
  · omega
  · exact h
end Go.Proofs.YtinifnpajkldbaaDoor

/- A slice of the call's own whose elements are K cells each, or nil; what appends make of it; slices of parts. -/
namespace Go.Proofs.YtinifnpajkldbaaDoor
open Go.RowKit
set_option linter.unusedSimpArgs false
set_option linter.unusedVariables false

/-- v is nil, or n elements of K cells each (xs: all their cells) in a block from Bd on. -/
def HasK (K : Nat) (w : World) (e : TypeId) (Bd : Nat) (v : Value) (n : Nat) (xs : List Value) : Prop :=
  (v = .slice none 0 0 ∧ n = 0 ∧ xs = []) ∨ ∃ g cap cur, v = .slice (some ⟨g, 0, none⟩) n cap ∧ Bd ≤ g ∧ xs.length = n * K ∧ n ≤ cap ∧ w.heap[g]? = some (.cells cur e (0, 0)) ∧ cur.size = cap * K ∧ cur.toList.take (n * K) = xs

section
variable {K : Nat} {w w' : World} {e : TypeId} {Bd : Nat} {v : Value} {n : Nat} {xs : List Value}
theorem HasK.nil (K : Nat) (w : World) (e : TypeId) (Bd : Nat) : HasK K w e Bd (.slice none 0 0) 0 [] := .inl ⟨rfl, rfl, rfl⟩
theorem HasK.later (h : HasK K w e Bd v n xs) (hb : Below w.heap.size w w') : HasK K w' e Bd v n xs := by
  rcases h with h | ⟨g, cap, cur, rfl, h1, h2, h3, h4, h5, h6⟩
  · exact .inl h
  · exact .inr ⟨g, cap, cur, rfl, h1, h2, h3, by rw [hb.block g (Array.getElem?_eq_some_iff.1 h4).1]; exact h4, h5, h6⟩
theorem HasK.mono (h : HasK K w e Bd v n xs) {B2 : Nat} (hb : B2 ≤ Bd) : HasK K w e B2 v n xs := by
  rcases h with h | ⟨g, cap, cur, rfl, h1, r⟩
  · exact .inl h
  · exact .inr ⟨g, cap, cur, rfl, Nat.le_trans hb h1, r⟩
theorem HasK.form (h : HasK K w e Bd v n xs) : ∃ a cap, v = .slice a n cap := by
  rcases h with ⟨rfl, rfl, rfl⟩ | ⟨g, cap, cur, rfl, h1, h2, h3, h4, h5, h6⟩
  · exact ⟨_, _, rfl⟩
  · exact ⟨_, _, rfl⟩
theorem HasK.cell {g cap : Nat} (h : HasK K w e Bd (.slice (some ⟨g, 0, none⟩) n cap) n xs) {j : Nat} {u : Value} (hj : xs[j]? = some u) : w.cell? ⟨g, j, none⟩ = some u := by
  rcases h with ⟨h, _⟩ | ⟨g', cap', cur, e1, h1, h2, h3, h4, h5, h6⟩
  · cases h
  · injection e1 with e1 e2 e3
    injection e1 with e1
    injection e1 with e1
    subst e1
    rw [cell_of_row w g j _ e (0, 0) h4]
    rw [← h6] at hj
    have hlt : j < n * K := by
      have := (List.getElem?_eq_some_iff.1 hj).1
      rw [List.length_take] at this
      omega
    rw [List.getElem?_take_of_lt hlt] at hj
    simpa using hj
/-- The block that a row of K cells an element lies in, whole. -/
theorem HasK.built {g n : Nat} {xs : List Value} (hg : w.heap[g]? = some (.cells xs.toArray e (0, 0))) (hl : xs.length = n * K) (hB : Bd ≤ g) : HasK K w e Bd (.slice (some ⟨g, 0, none⟩) n n) n xs :=
  .inr ⟨g, n, xs.toArray, rfl, hB, hl, Nat.le_refl _, hg, by simpa using hl, by rw [List.take_of_length_le (by simp [hl])]⟩
end

/-- The block that a slice lies in. -/
def blkOf : Value → Option Nat
  | .slice (some a) _ _ => some a.block
  | _ => none
theorem HasK.blk {K : Nat} {w : World} {e : TypeId} {Bd : Nat} {v : Value} {n : Nat} {xs : List Value} (h : HasK K w e Bd v n xs) {k : Nat} (hk : blkOf v = some k) : k < w.heap.size := by
  rcases h with ⟨rfl, _⟩ | ⟨g, cap, cur, rfl, h1, h2, h3, h4, h5, h6⟩
  · cases hk
  · cases hk; exact (Array.getElem?_eq_some_iff.1 h4).1

section
variable {P : Program}
theorem run_append_k (K Y : Nat) (w : World) (t tx ty e : TypeId) (i : TypeInfo) (z : Value) (ht : P.underlying t = some (.slice e)) (hi : P.info? e = some i) (hz : i.zero = some z)
    (hsize : i.size = K) (hzs : z.cells.size = K) (hby : i.bytes = Y)
    (Bd : Nat) (v : Value) (n : Nat) (xs : List Value) (hown : HasK K w e Bd v n xs) (hBd : Bd ≤ w.heap.size) (x : Value) (m : Nat) (news : List Value) (hs : Src P K tx x m news w)
    (hb : (n + m) * Y ≤ 140737488355328) (hb2 : n + m ≤ 140737488355328) :
    ∃ v' w', (Builtin.append_ #[t, tx] ty #[v, x]).run P w = .ok v' w' ∧ HasK K w' e Bd v' (n + m) (xs ++ news) ∧ Below Bd w w' ∧ (∀ k, k < w.heap.size → blkOf v ≠ some k → w'.heap[k]? = w.heap[k]?) ∧ ∀ k, blkOf v' = some k → blkOf v = some k ∨ w.heap.size ≤ k := by
  have hl : news.length = m * K := hs.newsLen
  rcases hown with ⟨rfl, rfl, rfl⟩ | ⟨g, cap, cur, rfl, h1, l1, l2, hg, hcs, htake⟩
  · by_cases hm : m = 0
    · subst hm
      have hn : news = [] := List.eq_nil_of_length_eq_zero (by omega)
      subst hn
      refine ⟨.slice none 0 0, w, ?_, .inl ⟨rfl, rfl, rfl⟩, Below.refl _ _, fun _ _ _ => rfl, fun _ h => .inl h⟩
      rcases hs.kind with ⟨e', hk⟩ | hk <;> simp [Builtin.append_, run_underlying ht, run_underlying hk, sizeOf, typeInfo, hi, hsize, hs.len, hs.cells]
    have hf : (Builtin.firstCells i.size 0 (.slice none 0 0)).run P w.drew = .ok ([] : List Value).toArray w.drew := by simp [Builtin.firstCells]
    have hgc := grownCap_ge w (0 + m) 0 e
    have hr := run_append_grow_src (P := P) w t tx ty e i z ht hi hz none 0 0 [] hf x m news (by rw [hsize]; exact hs) (by omega) (by omega) (growslice_fits (by omega) (by rw [hby]; omega))
    refine ⟨_, _, hr, .inr ⟨w.heap.size, grownCap w (0 + m) 0 e, _, rfl, hBd, by simp [hl], hgc, heap_alloc_new w.drew _, ?_, ?_⟩, ?_, fun k hk _ => Below.heap_alloc w.drew _ k hk, fun k h => by cases h; exact .inr (Nat.le_refl _)⟩
    · simp only [Array.size_append, List.size_toArray, size_zeroCells, hzs, List.nil_append, hl]
      rw [← Nat.add_mul]
      congr 1
      omega
    · simp only [Array.toList_append, List.nil_append]
      rw [Nat.zero_add, ← hl]
      exact List.take_left
    · exact ⟨rfl, rfl, rfl, by simp, fun k hk => Below.heap_alloc w.drew _ k (by show k < w.heap.size; omega)⟩
  · have hlen : (xs ++ news).length = (n + m) * K := by rw [List.length_append, l1, hl, Nat.add_mul]
    by_cases hroom : n + m ≤ cap
    · have hmul : (n + m) * K ≤ cap * K := Nat.mul_le_mul_right K hroom
      have hst := run_storeCells_at P g (n * K) e news 0 cur w hg (by rw [hl, hcs]; rw [Nat.add_mul] at hmul; omega) hs.one
      simp only [Nat.add_zero] at hst
      have hr : (Builtin.append_ #[t, tx] ty #[.slice (some ⟨g, 0, none⟩) n cap, x]).run P w = .ok (.slice (some ⟨g, 0, none⟩) (n + m) cap) (w.setRow g (cur.toList.take (n * K) ++ news ++ cur.toList.drop (n * K + news.length)).toArray) := by
        rcases hs.kind with ⟨e', hk⟩ | hk <;> simp [Builtin.append_, run_underlying ht, run_underlying hk, sizeOf, typeInfo, hi, hsize, hs.len, hroom, hs.cells, Addr.add_lit, hst]
      refine ⟨_, _, hr, .inr ⟨g, cap, _, rfl, h1, hlen, hroom, setRow_heap w g cur _ e _ hg, ?_, ?_⟩, ⟨rfl, rfl, rfl, by simp, fun k hk => setRow_other w g k _ (by omega)⟩, fun k hk hne => setRow_other w g k _ (fun e => hne (by rw [e]; rfl)), fun _ h => .inl h⟩
      · simp only [List.size_toArray, List.length_append, List.length_take, List.length_drop, Array.length_toList]
        rw [Nat.add_mul] at hmul
        omega
      · rw [htake]
        simp only [List.append_assoc]
        rw [← List.append_assoc, ← hlen]
        exact List.take_left
    · have hgc := grownCap_ge w (n + m) cap e
      have hold : HasK K w.drew e Bd (.slice (some ⟨g, 0, none⟩) n cap) n xs := .inr ⟨g, cap, cur, rfl, h1, l1, l2, hg, hcs, htake⟩
      have hf : (Builtin.firstCells i.size n (.slice (some ⟨g, 0, none⟩) n cap)).run P w.drew = .ok xs.toArray w.drew :=
        run_firstCells_some (P := P) w.drew i.size n ⟨g, 0, none⟩ n cap xs (by rw [hsize, l1]) (by intro j u hj; rw [Addr.add_lit, Nat.zero_add]; exact hold.cell hj)
      have hr := run_append_grow_src (P := P) w t tx ty e i z ht hi hz (some ⟨g, 0, none⟩) n cap xs hf x m news (by rw [hsize]; exact hs) (by omega) (by omega) (growslice_fits (by omega) (by rw [hby]; omega))
      refine ⟨_, _, hr, .inr ⟨w.heap.size, grownCap w (n + m) cap e, _, rfl, hBd, hlen, hgc, heap_alloc_new w.drew _, ?_, ?_⟩, ⟨rfl, rfl, rfl, by simp, fun k hk => Below.heap_alloc w.drew _ k (by show k < w.heap.size; omega)⟩, fun k hk _ => Below.heap_alloc w.drew _ k hk, fun k h => by cases h; exact .inr (Nat.le_refl _)⟩
      · simp only [Array.size_append, List.size_toArray, size_zeroCells, hzs, hlen]
        rw [← Nat.add_mul]
        congr 1
        omega
      · simp only [Array.toList_append]
        rw [← hlen]
        exact List.take_left

theorem wpList_append_k (K Y : Nat) {w : World} {ops : Array Oper} {rest : List Oper} {o : Oper} {a : Act} {Q : Exit → Act → World → Prop} (hgd : o.guard = none) (s x : Operand) (t tx : TypeId)
    (ho : o.op = .call { callee := .builtin .append, args := #[s, x], argTypes := #[t, tx] })
    (e : TypeId) (i : TypeInfo) (z : Value) (ht : P.underlying t = some (.slice e)) (hi : P.info? e = some i) (hz : i.zero = some z) (hsize : i.size = K) (hzs : z.cells.size = K) (hby : i.bytes = Y)
    (Bd : Nat) (v : Value) (n : Nat) (xs : List Value) (hs : a.eval s = v) (hown : HasK K w e Bd v n xs) (hBd : Bd ≤ w.heap.size)
    (y : Value) (m : Nat) (news : List Value) (hx : a.eval x = y) (hsrc : Src P K tx y m news w) (hb : (n + m) * Y ≤ 140737488355328) (hb2 : n + m ≤ 140737488355328)
    (h : ∀ v' w', HasK K w' e Bd v' (n + m) (xs ++ news) → Below Bd w w' → (∀ k, k < w.heap.size → blkOf v ≠ some k → w'.heap[k]? = w.heap[k]?) → (∀ k, blkOf v' = some k → blkOf v = some k ∨ w.heap.size ≤ k) → wpList P ops Q rest (a.put o.dst v') w') : wpList P ops Q (o :: rest) a w := by
  refine wpList_plain hgd fun J hJ => ?_
  obtain ⟨v', w', hr, hH, hB, hKp, hKq⟩ := run_append_k (P := P) K Y w t tx o.type e i z ht hi hz hsize hzs hby Bd v n xs hown hBd y m news hsrc hb hb2
  unfold Oper.wp execOp
  simp only [ho, resolve, invoke, builtin, Sem.run_bind, Sem.run_pure, Result.andThen_ok, List.map_toArray, List.map_cons, List.map_nil, hs, hx, hr]
  exact hJ _ _ (h v' w' hH hB hKp hKq)
end

/-- v is nil, or the parts o in a block from Bd on. -/
def HasC (w : World) (Bd : Nat) (v : Value) (o : List Cp) : Prop := HasK 3 w 62 Bd v o.length (C o)

section
variable {w w' : World} {Bd : Nat} {v : Value} {o : List Cp}
theorem HasC.nil (w : World) (Bd : Nat) : HasC w Bd (.slice none 0 0) [] := HasK.nil _ _ _ _
theorem HasC.later (h : HasC w Bd v o) (hb : Below w.heap.size w w') : HasC w' Bd v o := HasK.later h hb
theorem HasC.mono (h : HasC w Bd v o) {B2 : Nat} (hb : B2 ≤ Bd) : HasC w B2 v o := HasK.mono h hb
theorem HasC.form (h : HasC w Bd v o) : ∃ a cap, v = .slice a o.length cap := HasK.form h
theorem HasC.reads (h : HasC w Bd v o) : RC w v o := by
  have h0 := h
  rcases h with ⟨rfl, h1, h2⟩ | ⟨g, cap, cur, rfl, h1, h2, h3, h4, h5, h6⟩
  · exact .inl ⟨none, 0, rfl, List.eq_nil_of_length_eq_zero h1, fun _ => rfl⟩
  · exact .inr ⟨g, 0, cap, rfl, h3, fun j u hj => by rw [Nat.zero_add]; exact HasK.cell h0 hj, (Array.getElem?_eq_some_iff.1 h4).1⟩
end

theorem Tryd.infoComp : (Tryd.prog.info? 62).map (fun i => (i.size, i.bytes, i.zero.map fun z => z.cells.size)) = some (3, 32, some 3) := by kernel_rfl
theorem info_comp : ∃ i z, Tryd.prog.info? 62 = some i ∧ i.zero = some z ∧ i.size = 3 ∧ z.cells.size = 3 ∧ i.bytes = 32 := by
  have h := Tryd.infoComp
  cases hi : Tryd.prog.info? 62 with
  | none => simp [hi] at h
  | some i =>
    cases hz : i.zero with
    | none => simp [hi, hz] at h
    | some z =>
      simp [hi, hz] at h
      exact ⟨i, z, rfl, hz, h.1, h.2.2, h.2.1⟩

/-- What reads as parts, as what an append takes. -/
theorem RC.src {w : World} {v : Value} {o : List Cp} (h : RC w v o) : Src Tryd.prog 3 28 v o.length (C o) w := by
  rcases h with ⟨ao, cap, rfl, rfl, h0⟩ | ⟨g, off, cap, rfl, h1, h2, h3⟩
  · cases ao with
    | none =>
      have := h0 rfl
      subst this
      exact Src.ofNil w Tryd.underlying28 0
    | some ad => exact Src.ofSlice w Tryd.underlying28 ad 0 cap [] rfl (fun j u hj => by simp at hj) (fun u hu => by simp at hu)
  · exact Src.ofSlice w Tryd.underlying28 ⟨g, off, none⟩ o.length cap (C o) (C_length o) (fun j u hj => by rw [Addr.add_lit]; exact h2 j u hj) (C_one o)

/-- An append of parts; the other blocks stay. -/
theorem wpList_append_c2 {w : World} {ops : Array Oper} {rest : List Oper} {op : Oper} {a : Act} {Q : Exit → Act → World → Prop} (hgd : op.guard = none) (s x : Operand)
    (ho : op.op = .call { callee := .builtin .append, args := #[s, x], argTypes := #[28, 28] })
    (Bd : Nat) (v : Value) (o : List Cp) (hs : a.eval s = v) (hown : HasC w Bd v o) (hBd : Bd ≤ w.heap.size)
    (y : Value) (p : List Cp) (hx : a.eval x = y) (hsrc : RC w y p) (hb : o.length + p.length ≤ 4398046511104)
    (h : ∀ v' w', HasC w' Bd v' (o ++ p) → Below Bd w w' → (∀ k, k < w.heap.size → blkOf v ≠ some k → w'.heap[k]? = w.heap[k]?) → (∀ k, blkOf v' = some k → blkOf v = some k ∨ w.heap.size ≤ k) → wpList Tryd.prog ops Q rest (a.put op.dst v') w') : wpList Tryd.prog ops Q (op :: rest) a w := by
  obtain ⟨i, z, hi, hz, hsz, hzs, hby⟩ := info_comp
  refine wpList_append_k 3 32 hgd s x 28 28 ho 62 i z Tryd.underlying28 hi hz hsz hzs hby Bd v _ _ hs hown hBd y _ _ hx hsrc.src (by omega) (by omega) ?_
  intro v' w' hH hB hK hK2
  refine h v' w' ?_ hB hK hK2
  unfold HasC
  rw [List.length_append, C_append]
  exact hH
/-- An append of parts. -/
theorem wpList_append_c {w : World} {ops : Array Oper} {rest : List Oper} {op : Oper} {a : Act} {Q : Exit → Act → World → Prop} (hgd : op.guard = none) (s x : Operand)
    (ho : op.op = .call { callee := .builtin .append, args := #[s, x], argTypes := #[28, 28] })
    (Bd : Nat) (v : Value) (o : List Cp) (hs : a.eval s = v) (hown : HasC w Bd v o) (hBd : Bd ≤ w.heap.size)
    (y : Value) (p : List Cp) (hx : a.eval x = y) (hsrc : RC w y p) (hb : o.length + p.length ≤ 4398046511104)
    (h : ∀ v' w', HasC w' Bd v' (o ++ p) → Below Bd w w' → wpList Tryd.prog ops Q rest (a.put op.dst v') w') : wpList Tryd.prog ops Q (op :: rest) a w :=
  wpList_append_c2 hgd s x ho Bd v o hs hown hBd y p hx hsrc hb (fun v' w' h1 h2 _ _ => h v' w' h1 h2)
/-- One part, as it is built for an append. -/
theorem one_new (w : World) (c : Cp) (Bd : Nat) (hB : Bd ≤ w.heap.size) : HasC (w.alloc (.cells c.vals.toArray 62)) Bd (.slice (some ⟨w.heap.size, 0, none⟩) 1 1) [c] :=
  HasK.built (by rw [show C [c] = c.vals by simp [C]]; exact heap_alloc_new w _) (by rw [C_length]; rfl) hB
/-- A slice of parts that is built at once. -/
theorem parts_new (w : World) (o : List Cp) (n : Nat) (hn : o.length = n) : HasC (w.alloc (.cells (C o).toArray 62)) w.heap.size (.slice (some ⟨w.heap.size, 0, none⟩) n n) o := by
  subst hn
  exact HasK.built (heap_alloc_new w _) (C_length o) (Nat.le_refl _)
end Go.Proofs.YtinifnpajkldbaaDoor
