/- Texts laid together: Arg, OpenS, DRead4. -/
import Derived.Test.YtinifnpajkldbaaDoorPk0
import Derived.OpenShut
import Derived.Test.YtinifnpajkldbaaDoorPk26
import Derived.Test.YtinifnpajkldbaaDoorReadB8
import Derived.Test.YtinifnpajkldbaaDoorDRead3
import Derived.Stop.BytesEq
import Derived.Deep.RegionHeld3
import Derived.Laws.IdiomStrings

/- What is known of an argument that came in: a slice of bytes reads as bytes, a number lies within its kind. -/
namespace Go.Proofs.YtinifnpajkldbaaDoor
open Go.RowKit

/-- A slice of integers that came in: nil, or a row of cap cells, the numbers zs, of which the first len are its elements. -/
def IsRow (k : IntKind) (w : World) (a : Option Addr) (len cap : Nat) (zs : List Int) : Prop :=
  (a = none ∧ len = 0 ∧ cap = 0 ∧ zs = []) ∨
  ∃ x, a = some x ∧ len ≤ cap ∧ cap ≤ maxLen ∧ zs.length = cap ∧ (∀ i, i < zs.length → w.cell? (x.add i) = some (.int k (zs.getD i 0))) ∧ ∀ n ∈ zs, (Lit.int k n).wf = true

theorem wf_u8 {n : Int} (h : (Lit.int .u8 n).wf = true) : 0 ≤ n ∧ n < 256 := by
  simp [Lit.wf, IntKind.min, IntKind.max, IntKind.bits, IntKind.signed] at h
  omega

theorem wf_i64 {n : Int} (h : (Lit.int .i64 n).wf = true) : -9223372036854775808 ≤ n ∧ n ≤ 9223372036854775807 := by
  simp [Lit.wf, IntKind.min, IntKind.max, IntKind.bits, IntKind.signed] at h
  omega

theorem bytes_of_row {w : World} {a : Option Addr} {len cap : Nat} {zs : List Int} (h : IsRow .u8 w a len cap zs) : ∃ l : List UInt8, l.length = len ∧ l.length ≤ maxLen ∧ Reads w (.slice a l.length cap) (B l) := by
  rcases h with ⟨rfl, rfl, rfl, rfl⟩ | ⟨x, rfl, h1, h2, h3, h4, h5⟩
  · exact ⟨[], rfl, Nat.zero_le _, none, 0, rfl, Nat.le_refl _, fun _ => rfl, fun _ h => by cases h⟩
  · have hl : ((zs.take len).map fun n => UInt8.ofNat n.toNat).length = len := by rw [List.length_map, List.length_take]; omega
    refine ⟨(zs.take len).map fun n => UInt8.ofNat n.toNat, hl, by rw [hl]; omega, some x, cap, by rw [B_length], by rw [B_length, hl]; exact h1, (fun h => by cases h), ?_⟩
    intro ad he j u hj
    cases he
    rw [B_get, List.getElem?_map, List.getElem?_take] at hj
    split at hj
    · rename_i hlt
      have hjz : j < zs.length := by omega
      rw [List.getElem?_eq_getElem hjz] at hj
      simp only [Option.map_some, Option.some.injEq] at hj
      rw [h4 j hjz, ← hj]
      have hw := wf_u8 (h5 zs[j] (List.getElem_mem hjz))
      have e1 : zs.getD j 0 = zs[j] := by rw [List.getD_eq_getElem?_getD, List.getElem?_eq_getElem hjz]; rfl
      rw [e1, UInt8.toNat_ofNat']
      congr 2
      omega
    · simp at hj
end Go.Proofs.YtinifnpajkldbaaDoor

/- What Open answers (chapter 9), and small things that many texts take. -/
namespace Go.Proofs.YtinifnpajkldbaaDoor
open Go.RowKit
set_option linter.unusedSimpArgs false
set_option linter.unusedVariables false

theorem one9 {w : World} {Bd : Nat} {v : Value} {o : List Cp} (h : HasC w Bd v o) : v.oneCell' = true := by
  obtain ⟨a, c, rfl⟩ := h.form
  rfl
theorem delP_len (b : List UInt8) : (delP b).1.h.length = 32 := by
  have h1 := fldV_len (b, 0)
  have h3 : Dl.zero.h.length = 32 := Dl.zero_len
  unfold delP
  generalize fldV (b, 0) = V at *
  generalize opP (fldT (b, 0)) = X at *
  generalize endS (fldN (b, 0)) = e0 at *
  repeat' split
  all_goals first | exact h3 | exact h1
theorem delP_dom {b : List UInt8} (h : (delP b).2.2 = 0) : ∃ j : Nat, j < 3 ∧ (delP b).1.aD = (j : Int) := by
  have h1 := (dB_delP h).2.1
  rw [chkD] at h1
  split at h1
  · rename_i h2
    simp only [userS, upS, Bool.and_eq_true, decide_eq_true_eq] at h2
    exact ⟨(delP b).1.aD.toNat, by omega, by omega⟩
  · exact absurd h1 (by omega)

theorem HasC.setCells9 {w : World} {Bd : Nat} {v : Value} {o : List Cp} (h : HasC w Bd v o) {L : Nat} (hL : L < Bd) (j : Nat) (vs : List Value) : HasC (w.setCells L j vs) Bd v o := by
  rcases h with h | ⟨g, cap, cur, rfl, h1, h2, h3, h4, h5, h6⟩
  · exact .inl h
  · exact .inr ⟨g, cap, cur, rfl, h1, h2, h3, by rw [setCells_heap (by omega)]; exact h4, h5, h6⟩

/-- What Open answers. -/
def openS (KY : Nat → List UInt8) (m body : List UInt8) : Dl × List Cp × Int :=
  if (delP body).2.2 ≠ 0 then (Dl.zero, [], (delP body).2.2) else if m ≠ macS (KY (delP body).1.aD.toNat) body then (Dl.zero, [], 14) else delP body

set_option maxRecDepth 100000 in
theorem built_none : Tryd.prog.built 30 [] = some (Dl.zero.cells (.slice none 0 0)).toArray := by kernel_rfl
theorem sizeB9o (w : World) : (sizeOf 5).run Tryd.prog w = .ok 1 w := by
  have h : (Tryd.prog.info? 5).map (·.size) = some 1 := by kernel_rfl
  cases hi : Tryd.prog.info? 5 with
  | none => simp [hi] at h
  | some i => simp [hi] at h; simp [sizeOf, typeInfo, hi, h]
theorem equal_hash9o (w : World) (l m : List UInt8) (hl : l.length = 32) (hm : m.length = 32) : (Op.equalIn 10000 26 (.agg (B l).toArray) (.agg (B m).toArray)).run Tryd.prog w = .ok (l == m) w :=
  run_equalIn_bytes (P := Tryd.prog) w 9998 26 5 32 Tryd.underlying26 Tryd.underlying5 sizeB9o l m hl hm

/-- How Open ends. -/
def OpenR (KY : Nat → List UInt8) (m body : List UInt8) (w : World) (x : Ending) (w' : World) : Prop :=
  ∃ v', x = .returned (.tuple #[.agg ((openS KY m body).1.cells v').toArray, .int .i64 (openS KY m body).2.2]) ∧ HasC w' w.heap.size v' (openS KY m body).2.1 ∧ Below w.heap.size w w'

theorem delP_few9 (b : List UInt8) : (delP b).2.1.length ≤ 40 := by
  have h2 := (opP_size (fldT (b, 0))).2
  unfold delP
  generalize fldV (b, 0) = V at *
  generalize opP (fldT (b, 0)) = X at *
  generalize endS (fldN (b, 0)) = e0 at *
  repeat' split
  all_goals first | exact Nat.zero_le _ | exact h2
theorem openS_few (KY : Nat → List UInt8) (m body : List UInt8) : (openS KY m body).1.h.length = 32 ∧ (openS KY m body).2.1.length ≤ 40 := by
  have h1 := delP_len body
  have h2 := delP_few9 body
  have h3 : Dl.zero.h.length = 32 := Dl.zero_len
  unfold openS
  generalize delP body = Q at *
  repeat' split
  all_goals first | exact ⟨h3, Nat.zero_le _⟩ | exact ⟨h1, h2⟩
theorem row_cap9 {w : World} {k : IntKind} {a : Option Addr} {len cap : Nat} {zs : List Int} (h : IsRow k w a len cap zs) : len ≤ cap := by
  rcases h with ⟨rfl, rfl, rfl, rfl⟩ | ⟨ad, rfl, h1, h2, h3, h4, h5⟩ <;> omega
theorem cap_row9 {k : IntKind} {w : World} {a : Option Addr} {len cap : Nat} {zs : List Int} (h : IsRow k w a len cap zs) : cap ≤ maxLen := by
  rcases h with ⟨_, _, rfl, _⟩ | ⟨x, _, _, h, _⟩
  · exact Nat.zero_le _
  · exact h
theorem HasC.kept9 {w w' : World} {Bd : Nat} {v : Value} {o : List Cp} (h : HasC w Bd v o) (kp : ∀ k, blkOf v = some k → w'.heap[k]? = w.heap[k]?) : HasC w' Bd v o := by
  rcases h with ⟨rfl, h1, h2⟩ | ⟨g, cap, cur, rfl, h1, h2, h3, h4, h5, h6⟩
  · exact .inl ⟨rfl, h1, h2⟩
  · exact .inr ⟨g, cap, cur, rfl, h1, h2, h3, by rw [kp g rfl]; exact h4, h5, h6⟩
theorem HasC.ge9 {w : World} {Bd : Nat} {v : Value} {o : List Cp} (h : HasC w Bd v o) {k : Nat} (hk : blkOf v = some k) : Bd ≤ k := by
  rcases h with ⟨rfl, h1, h2⟩ | ⟨g, cap, cur, rfl, h1, h2⟩
  · cases hk
  · cases hk; exact h1
/-- A value built of parts yields it in every world. -/
theorem yields_build9 {P : Program} {ops : Array Oper} {S : World → Prop} {op : Oper} {a : Act} (hw : Region.wanted op (yielded ops a.tmps) = true) (ty : TypeId) (ps : Array (Nat × Operand)) (ho : op.op = .build ty ps)
    (vs : Array (Nat × Value)) (hv : (ps.map fun (i, x) => (i, a.eval x)) = vs) (cells : Array Value) (h : ∀ w, (Instr.build ty vs).run P w = .ok (.agg cells) w) : YieldsIf P ops S op (.agg cells) a :=
  .inl ⟨hw, fun w _ => by
    unfold execOp
    simp only [ho, hv, Sem.run_bind, Sem.run_pure, h, Result.andThen_ok]⟩
end Go.Proofs.YtinifnpajkldbaaDoor

/- The contract of package delta's Parse. -/
namespace Go.Proofs.YtinifnpajkldbaaDoor
open Go.RowKit
set_option linter.unusedSimpArgs false
set_option linter.unusedVariables false

/-- []byte(s). -/
theorem conv_bytes (w : World) (s : ByteArray) (hs : s.size ≤ 1000000) : ∃ cap w', (convert 9 22 (.string s)).run Tryd.prog w = .ok (.slice (some ⟨w.heap.size, 0, none⟩) s.size cap) w' ∧ Reads w' (.slice (some ⟨w.heap.size, 0, none⟩) s.size cap) (B s.data.toList) ∧ Below w.heap.size w w' ∧ w'.heap.size = w.heap.size + 1 := by
  have hr := run_bytes_of_string (P := Tryd.prog) w 9 22 5 s Tryd.underlying9 Tryd.underlying22 Tryd.underlying5
  refine ⟨_, _, hr, ?_, ?_, ?_⟩
  · refine ⟨some ⟨w.heap.size, 0, none⟩, grownCap w s.size 0 5, by rw [B_length]; simp, by rw [B_length]; have := grownCap_ge w s.size 0 5; simpa using this, fun h => by (cases h), ?_⟩
    intro ad he j u hj
    cases he
    rw [B_get] at hj
    cases hl : s.data.toList[j]? with
    | none => rw [hl] at hj; cases hj
    | some b =>
      rw [hl] at hj
      simp only [Option.map_some, Option.some.injEq] at hj
      subst hj
      have hjl := List.getElem?_eq_some_iff.1 hl
      rw [Addr.add_lit, Nat.zero_add]
      have h1 : ((w.drew.alloc (.cells (bytesRow s (grownCap w s.size 0 5)) 5 ((bytesRow s (grownCap w s.size 0 5)).size, (bytesRow s (grownCap w s.size 0 5)).size + 1))).heap[w.heap.size]?) = some (.cells (bytesRow s (grownCap w s.size 0 5)) 5 ((bytesRow s (grownCap w s.size 0 5)).size, (bytesRow s (grownCap w s.size 0 5)).size + 1)) := heap_alloc_new w.drew _
      have h2 := bytesRow_at s (grownCap w s.size 0 5) j (by simpa using hjl.1)
      simp only [World.cell?, h1, h2]
      rw [← hjl.2]
      simp
  · exact ((Below.refl _ _).drew).alloc (Nat.le_refl _) _
  · simp

theorem HasC.setApart {w : World} {Bd : Nat} {v : Value} {o : List Cp} (h : HasC w Bd v o) {L : Nat} (hL : L < Bd) (j : Nat) (x : Value) : HasC (w.setCell ⟨L, j, none⟩ x) Bd v o := by
  rcases h with h | ⟨g, cap, cur, rfl, h1, h2, h3, h4, h5, h6⟩
  · exact .inl h
  · exact .inr ⟨g, cap, cur, rfl, h1, h2, h3, by rw [heap_setCell_other _ _ _ _ (by show g ≠ L; omega)]; exact h4, h5, h6⟩
theorem HasC.setCells {w : World} {Bd : Nat} {v : Value} {o : List Cp} (h : HasC w Bd v o) {L : Nat} (hL : L < Bd) (j : Nat) (vs : List Value) : HasC (w.setCells L j vs) Bd v o := by
  rcases h with h | ⟨g, cap, cur, rfl, h1, h2, h3, h4, h5, h6⟩
  · exact .inl h
  · exact .inr ⟨g, cap, cur, rfl, h1, h2, h3, by rw [setCells_heap (by omega)]; exact h4, h5, h6⟩
theorem lay_delta {w1 : World} {L : Nat} {d : Dl} {v : Value} (hd : d.h.length = 32) (hB : Blk w1 30 L (Dl.zero.cells (.slice none 0 0))) :
    w1.there L 0 (d.cells v).length ∧ DW (w1.setCells L 0 (d.cells v)) 30 L d v :=
  ⟨(DW.mk Dl.zero_len hB).there (by rw [Dl.len hd]; omega), (DW.mk Dl.zero_len hB).set_all d hd v⟩

/-- What Parse answers. -/
def ParseR (b : List UInt8) (w : World) (x : Ending) (w' : World) : Prop :=
  ∃ v', x = .returned (.tuple #[.agg ((delP b).1.cells v').toArray, .int .i64 (delP b).2.2]) ∧ HasC w' w.heap.size v' (delP b).2.1 ∧ Below w.heap.size w w'

set_option maxRecDepth 100000 in
set_option maxHeartbeats 4000000 in
theorem dParse_any (v : Value) (b : List UInt8) (w : World) (hr : Reads w v (B b)) (hbl : b.length ≤ 140737488355328) :
    Calls Tryd.prog 35 #[v] w (ParseR b w) := by
  have hml : b.length ≤ maxLen := by unfold maxLen; omega
  obtain ⟨L, hL⟩ : ∃ L, w.heap.size = L := ⟨_, rfl⟩
  have HI := hid (show (Tryd.prog.info? 30).map (·.size) = some 40 by kernel_rfl)
  have HZO := hid (show ∀ x ∈ Dl.zero.cells (.slice none 0 0), x.oneCell' = true from Dl.one rfl)
  have HW0 := hid (show DW (w.alloc (.cells (Dl.zero.cells (.slice none 0 0)).toArray 30)) 30 L Dl.zero (.slice none 0 0) from ⟨Dl.zero_len, by rw [← hL]; exact Blk.new w _ _⟩)
  have Hb0 := hid (show Below L w (w.alloc (.cells (Dl.zero.cells (.slice none 0 0)).toArray 30)) by rw [← hL]; exact (Below.refl _ _).alloc (Nat.le_refl _) _)
  have HS0 := hid (show L + 1 = (w.alloc (.cells (Dl.zero.cells (.slice none 0 0)).toArray 30)).heap.size by simp; omega)
  have HRd0 := hid (hr.later ((Below.refl _ _).alloc (Nat.le_refl _) (.cells (Dl.zero.cells (.slice none 0 0)).toArray 30)))
  have HD := hid (show ∀ (x : Ending) (w' : World) (d : Dl) (o : List Cp) (e : Int) (v' : Value), delP b = (d, o, e) → x = .returned (.tuple #[.agg (d.cells v').toArray, .int .i64 e]) → HasC w' w.heap.size v' o → Below w.heap.size w w' → ParseR b w x w' by
    intro x w' d o e v' h1 h2 h3 h4
    exact ⟨v', by rw [h1]; exact h2, by rw [h1]; exact h3, h4⟩)
  clear hr
  go_enter Tryd.func35, Tryd.ntmps35
  go_wp2_with fail
  refine wp_scope_at 0 (fun a' w' => ∃ (e : Int), a' = ⟨#[a'.tmps.getD 0 undef, a'.tmps.getD 1 undef, .pointer (some ⟨L, 0, none⟩), a'.tmps.getD 3 undef, a'.tmps.getD 4 undef, a'.tmps.getD 5 undef, a'.tmps.getD 6 undef, .int .i64 e, a'.tmps.getD 8 undef, a'.tmps.getD 9 undef, a'.tmps.getD 10 undef, a'.tmps.getD 11 undef, a'.tmps.getD 12 undef, a'.tmps.getD 13 undef, a'.tmps.getD 14 undef, a'.tmps.getD 15 undef, a'.tmps.getD 16 undef, a'.tmps.getD 17 undef, a'.tmps.getD 18 undef, a'.tmps.getD 19 undef, a'.tmps.getD 20 undef, a'.tmps.getD 21 undef, a'.tmps.getD 22 undef, a'.tmps.getD 23 undef, a'.tmps.getD 24 undef, a'.tmps.getD 25 undef, a'.tmps.getD 26 undef, a'.tmps.getD 27 undef, a'.tmps.getD 28 undef, a'.tmps.getD 29 undef, a'.tmps.getD 30 undef, a'.tmps.getD 31 undef, a'.tmps.getD 32 undef, a'.tmps.getD 33 undef, a'.tmps.getD 34 undef], []⟩ ∧ delP b = (Dl.zero, [], e) ∧ DW w' 30 L Dl.zero (.slice none 0 0) ∧ Below L w w')
    (fun _ _ => 0) rfl ?pass ?first
  case pass =>
    rintro a' w' ⟨e, ha, hd, hW, hb⟩
    obtain ⟨f, ha2⟩ : ∃ f : Nat → Value, a' = ⟨#[f 0, f 1, .pointer (some ⟨L, 0, none⟩), f 3, f 4, f 5, f 6, .int .i64 e, f 8, f 9, f 10, f 11, f 12, f 13, f 14, f 15, f 16, f 17, f 18, f 19, f 20, f 21, f 22, f 23, f 24, f 25, f 26, f 27, f 28, f 29, f 30, f 31, f 32, f 33, f 34], []⟩ := ⟨fun j => a'.tmps.getD j undef, ha⟩
    clear ha HRd0 HS0 Hb0 HW0
    subst ha2
    obtain ⟨zs, hzs⟩ : ∃ zs, Dl.zero.cells (.slice none 0 0) = zs := ⟨_, rfl⟩
    have HZ := hid hzs
    have HL := hid (show zs.length = 40 by rw [← hzs, Dl.len Dl.zero_len])
    have HZE := hid (show Value.agg zs.toArray = Value.agg (Dl.zero.cells (.slice none 0 0)).toArray by rw [hzs])
    have HTH := hid (hW.there (j := 0) (n := zs.length) (by rw [HL.out]; omega))
    have HX := hid (show Blk (w'.setCells L 0 zs) 30 L zs ∧ Below L w (w'.setCells L 0 zs) by
      rw [← hzs]; exact ⟨(hW.set_all Dl.zero Dl.zero_len (.slice none 0 0)).blk, below_setCells (Nat.le_refl _) _ _ hb⟩)
    have HE := hid hd
    rw [hzs] at HZO
    clear hzs hd hW hb
    go_wp2_with (show wpList _ _ _ (⟨none, Op.store _ (Operand.tmp 2) (Operand.tmp 33), _, _, _, _⟩ :: _) _ _; go_must (refine wpList_store_list rfl 30 _ _ rfl L 0 zs rfl HZE.out.symm HTH.out (by rw [HL.out]; exact HI.out) HZO.out ?_); intro w2 hw2; have HX2 := HX; rw [← hw2] at HX2; clear hw2 HX)
    simp only [Exit.jump]
    refine ret_cell_tmp 2 3 30 rfl L rfl _ rfl zs _ (HX2.out.1.range fun j v hv => by rw [Nat.zero_add]; exact hv) Tryd.underlying30 rfl (by rw [HL.out]; exact HI.out) rfl (HD.out _ _ Dl.zero [] e (.slice none 0 0) HE.out (by rw [HZ.out]; rfl) (HasC.nil _ _) (by rw [hL]; exact HX2.out.2))
  case first =>
    intro hy
    have HY := hid hy
    clear hy
    go_wp2_with fail
    refine (New_any v b _ HRd0.out hbl).mono ?_
    rintro _ w1 ⟨p, rfl, hp, hR, hb⟩
    have hb1 : Below (w.alloc (.cells (Dl.zero.cells (.slice none 0 0)).toArray 30)).heap.size (w.alloc (.cells (Dl.zero.cells (.slice none 0 0)).toArray 30)) w1 := hb
    have hp1 : (w.alloc (.cells (Dl.zero.cells (.slice none 0 0)).toArray 30)).heap.size ≤ p := hp
    have HW1 := hid (HW0.out.later hb1)
    have Hb1 := hid (show Below L w w1 from Hb0.out.trans (hb1.mono (by have := HS0.out; omega)))
    have hpL : L < p := by have := HS0.out; omega
    have hL1 : L < w1.heap.size := HW1.out.blk.lt
    have HR1 := hid hR
    clear hR hb hb1 hp hp1 HRd0 HW0 Hb0 HS0
    go_wp2_with fail
    refine (dFields_any (N := w1.heap.size) p (b, 0) _ HR1.out hml (Nat.le_refl _)).mono ?_
    rintro _ w2 ⟨rfl, hR, hg⟩
    have HW2 := hid (HW1.out.grown hg (by intro e; cases e; omega))
    have Hb2 := hid (show Below L w w2 from Hb1.out.grown hg (by omega) (fun k hk => by cases hk; omega))
    have hs2 := hg.size
    have hp2 : p < w2.heap.size := hR.lt
    obtain ⟨L2, hL2⟩ : ∃ L2, w2.heap.size = L2 := ⟨_, rfl⟩
    have HBZ : Blk (w2.alloc (.cells (Dl.zero.cells (.slice none 0 0)).toArray 30)) 30 L2 (Dl.zero.cells (.slice none 0 0)) := by rw [← hL2]; exact Blk.new w2 _ _
    have HT := hid (lay_delta (v := .slice none 0 0) (fldV_len (b, 0)) HBZ)
    have HRA := hid (hR.later ((Below.refl _ _).alloc (Nat.le_refl _) (.cells (Dl.zero.cells (.slice none 0 0)).toArray 30)))
    have HWA := hid (HW2.out.later ((Below.refl _ _).alloc (Nat.le_refl _) (.cells (Dl.zero.cells (.slice none 0 0)).toArray 30)))
    have HbA := hid (Hb2.out.alloc (by omega) (.cells (Dl.zero.cells (.slice none 0 0)).toArray 30))
    obtain ⟨cs, hcs⟩ : ∃ cs, (fldV (b, 0)).cells (.slice none 0 0) = cs := ⟨_, rfl⟩
    rw [hcs] at HT
    rw [hcs]
    have HCS := hid hcs
    have HL := hid (show cs.length = 40 by rw [← hcs, Dl.len (fldV_len _)])
    have HO := hid (show ∀ v ∈ cs, v.oneCell' = true by rw [← hcs]; exact Dl.one rfl)
    clear hR hg hcs HBZ HR1 HW1 Hb1 HW2 Hb2
    go_wp2_with (show wpList _ _ _ (⟨none, Op.store _ (Operand.tmp 5) (Operand.tmp 13), _, _, _, _⟩ :: _) _ _; go_must (refine wpList_store_list rfl 30 _ _ rfl L2 0 cs rfl rfl HT.out.1 (by rw [HL.out]; exact HI.out) HO.out ?_); intro w3 hw3; have hw3' : w3 = (w2.alloc (.cells (Dl.zero.cells (.slice none 0 0)).toArray 30)).setCells L2 0 cs := hw3; have HV3 := hid HT.out.2; rw [← hw3'] at HV3; have HR3 := hid (show RD w1.heap.size w3 p (fldN (b, 0)) by rw [hw3']; exact HRA.out.apart (grownCs L2 _ 0 _) (by omega) (by omega)); have HW3 := hid (show DW w3 30 L Dl.zero (.slice none 0 0) by rw [hw3']; exact HWA.out.grown (grownCs L2 _ 0 _) (by intro e; cases e; omega)); have Hb3 := hid (show Below L w w3 by rw [hw3']; exact below_setCells (by omega) _ _ HbA.out); clear hw3 hw3' HT HRA HWA HbA)
    refine (End_any p (fldN (b, 0)) _ HR3.out (Nat.le_trans (by unfold fldN; exact Nat.le_trans (intN_len _) (Nat.le_trans (intN_len _) (Nat.le_trans (txtN_len _) (Nat.le_trans (nextS_len _) (Nat.le_trans (hashN_len 32 _) (Nat.le_trans (intN_len _) (Nat.le_trans (intN_len _) (Nat.le_trans (intN_len _) (intN_len _))))))))) hml)).mono ?_
    rintro _ wx ⟨rfl, hwx⟩
    rw [hwx]
    clear hwx wx
    obtain ⟨e, he⟩ : ∃ e, endS (fldN (b, 0)) = e := ⟨_, rfl⟩
    have HDP := hid (show delP b = if e ≠ 0 then (Dl.zero, [], e) else if (opP (fldT (b, 0))).2 ≠ 0 then (Dl.zero, [], (opP (fldT (b, 0))).2) else if chkD (fldV (b, 0)) (opP (fldT (b, 0))).1 ≠ 0 then (Dl.zero, [], chkD (fldV (b, 0)) (opP (fldT (b, 0))).1) else (fldV (b, 0), (opP (fldT (b, 0))).1, 0) by rw [delP, he])
    rw [he]
    clear he
    by_cases h0 : e = 0
    case neg =>
      have hne : (e == 0) = false := by simpa using h0
      have HE := hid (show delP b = (Dl.zero, [], e) by rw [HDP.out, if_pos h0])
      go_wp2_with fail
      refine wp_goto ?_
      exact ⟨rfl, e, rfl, HE.out, HW3.out, Hb3.out⟩
    subst h0
    obtain ⟨X, hX⟩ : ∃ X : ByteArray, (⟨(fldT (b, 0)).toArray⟩ : ByteArray) = X := ⟨_, rfl⟩
    have hXs : X.size ≤ 65535 := by rw [← hX]; exact fldT_len (b, 0)
    have hXl : X.data.toList = fldT (b, 0) := by rw [← hX]
    obtain ⟨cc, w4, hconv, hr4, hb4, hs4⟩ := conv_bytes w3 X (by omega)
    have hz3 : L2 < w3.heap.size := HV3.out.blk.lt
    have HV4 := hid (HV3.out.later hb4)
    have HW4 := hid (HW3.out.later hb4)
    have Hb4 := hid (show Below L w w4 from Hb3.out.trans (hb4.mono (by omega)))
    rw [hXl] at hr4
    have HRd4 := hid hr4
    rw [hX]
    have hXl2 : (fldT (b, 0)).length ≤ 140737488355328 := by have := fldT_len (b, 0); omega
    clear hX hr4 hb4 HR3 HW3 HV3 Hb3
    go_wp2_with fail
    refine (dOpParse_any _ (fldT (b, 0)) _ HRd4.out hXl2).mono ?_
    rintro _ w5 ⟨v5, rfl, hH5, hb5⟩
    have hosz := opP_size (fldT (b, 0))
    obtain ⟨oV, eV, hoV⟩ : ∃ oV eV, opP (fldT (b, 0)) = (oV, eV) := ⟨_, _, rfl⟩
    rw [hoV] at hH5 hosz HDP ⊢
    simp only at hH5 hosz HDP ⊢
    have HOS := hid hosz
    obtain ⟨a5, c5, rfl⟩ := hH5.form
    have HV5 := hid (HV4.out.later hb5)
    have HW5 := hid (HW4.out.later hb5)
    have Hb5 := hid (show Below L w w5 from Hb4.out.trans (hb5.mono (by omega)))
    obtain ⟨x0, x1, x2, x3, x36, c37, x38, x39⟩ := HV5.out.cells
    have f37 := HV5.out.frozen 37
    have HV6 := hid (HV5.out.set_op (.slice a5 oV.length c5))
    have HW6 := hid (HW5.out.grown (grownC w5 L2 37 (.slice a5 oV.length c5)) (by intro e; cases e; omega))
    have Hb6 := hid (show Below L w (w5.setCell ⟨L2, 37, none⟩ (.slice a5 oV.length c5)) from Hb5.out.setCell (show L ≤ L2 by omega) (.slice a5 oV.length c5))
    have HH6 := hid ((hH5.setApart (L := L2) (by omega) 37 (.slice a5 oV.length c5)).mono (B2 := L + 1) (by omega))
    clear x0 x1 x2 x3 x36 x38 x39 hosz hoV hH5 hb5 HRd4 hconv HV4 HW4 Hb4 HV5 HW5 Hb5
    go_upto_region 6 with fail
    generalize w5.setCell ⟨L2, 37, none⟩ (.slice a5 oV.length c5) = w6 at *
    clear c37 f37
    by_cases h1 : eV = 0
    case neg =>
      have hne : (eV == 0) = false := by simpa using h1
      have HE := hid (show delP b = (Dl.zero, [], eV) by rw [HDP.out, if_neg (by simp), if_pos h1])
      go_wp2_with fail
      refine wp_goto ?_
      exact ⟨rfl, eV, rfl, HE.out, HW6.out, Hb6.out⟩
    subst h1
    obtain ⟨ds, hds⟩ : ∃ ds, (fldV (b, 0)).cells (.slice a5 oV.length c5) = ds := ⟨_, rfl⟩
    have HDS := hid hds
    have HLd := hid (show ds.length = 40 by rw [← hds, Dl.len (fldV_len _)])
    have HOd := hid (show ∀ v ∈ ds, v.oneCell' = true by rw [← hds]; exact Dl.one rfl)
    have hrd := hid (show w6.rangeAt L2 0 ds by rw [← hds]; exact HV6.out.whole)
    clear hds
    go_wp2_with (show wpList _ _ _ (⟨some 28, Op.load _ _, _, _, _, _⟩ :: _) _ _; go_must (refine wpList_load_mid rfl 30 _ rfl L2 0 rfl ds _ hrd.out Tryd.underlying30 rfl (by rw [HLd.out]; exact HI.out) ?_))
    rw [← HDS.out]
    refine (dCheck_any (fldV (b, 0)) (fldV_len _) (.slice a5 oV.length c5) oV _ HH6.out.reads (fun c hc => by have := HOS.out.1 c hc; omega) (by have := HOS.out.2; omega)).mono ?_
    rintro _ w7 ⟨rfl, hb7⟩
    rw [HDS.out]
    have hz6 : L2 < w6.heap.size := HV6.out.blk.lt
    have HV7 := hid (HV6.out.later hb7)
    have HW7 := hid (HW6.out.later hb7)
    have Hb7 := hid (show Below L w w7 from Hb6.out.trans (hb7.mono (by omega)))
    have HH7 := hid (HH6.out.later hb7)
    clear hb7 hrd HV6 HW6 Hb6 HH6
    obtain ⟨r, hr⟩ : ∃ r, chkD (fldV (b, 0)) oV = r := ⟨_, rfl⟩
    rw [hr] at HDP ⊢
    clear hr
    by_cases h2 : r = 0
    case neg =>
      have hne : (r == 0) = false := by simpa using h2
      have HE := hid (show delP b = (Dl.zero, [], r) by rw [HDP.out, if_neg (by simp), if_neg (by simp), if_pos h2])
      go_wp2_with fail
      refine wp_goto ?_
      exact ⟨rfl, r, rfl, HE.out, HW7.out, Hb7.out⟩
    subst h2
    have HE := hid (show delP b = (fldV (b, 0), oV, 0) by rw [HDP.out, if_neg (by simp), if_neg (by simp), if_neg (by simp)])
    have hrd := hid (show w7.rangeAt L2 0 ds by rw [← HDS.out]; exact HV7.out.whole)
    have HTH := hid (HW7.out.there (j := 0) (n := ds.length) (by rw [HLd.out]; omega))
    have HX := hid (show Blk (w7.setCells L 0 ds) 30 L ds ∧ Below L w (w7.setCells L 0 ds) ∧ HasC (w7.setCells L 0 ds) L (.slice a5 oV.length c5) oV by
      refine ⟨?_, below_setCells (Nat.le_refl _) _ _ Hb7.out, (HH7.out.setCells (L := L) (by omega) 0 ds).mono (by omega)⟩
      rw [← HDS.out]; exact (HW7.out.set_all (fldV (b, 0)) (fldV_len _) (.slice a5 oV.length c5)).blk)
    clear HV7 HW7 Hb7 HH7
    go_wp2_with (first
      | (show wpList _ _ _ (⟨some 32, Op.load _ _, _, _, _, _⟩ :: _) _ _; go_must (refine wpList_load_mid rfl 30 _ rfl L2 0 rfl ds _ hrd.out Tryd.underlying30 rfl (by rw [HLd.out]; exact HI.out) ?_))
      | (show wpList _ _ _ (⟨none, Op.store _ (Operand.tmp 2) (Operand.tmp 32), _, _, _, _⟩ :: _) _ _; go_must (refine wpList_store_list rfl 30 _ _ rfl L 0 ds rfl rfl HTH.out (by rw [HLd.out]; exact HI.out) HOd.out ?_); intro w8 hw8; have HX2 := HX; rw [← hw8] at HX2; clear hw8 HX))
    simp only [Exit.jump]
    refine ret_cell_tmp 2 3 30 rfl L rfl _ rfl ds _ (HX2.out.1.range fun j v hv => by rw [Nat.zero_add]; exact hv) Tryd.underlying30 rfl (by rw [HLd.out]; exact HI.out) rfl (HD.out _ _ (fldV (b, 0)) oV 0 (.slice a5 oV.length c5) HE.out (by rw [HDS.out]; rfl) (by rw [hL]; exact HX2.out.2.2) (by rw [hL]; exact HX2.out.2.1))
end Go.Proofs.YtinifnpajkldbaaDoor
