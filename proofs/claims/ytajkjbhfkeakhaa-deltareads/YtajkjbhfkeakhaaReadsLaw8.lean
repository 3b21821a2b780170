/- The law DeltaReads: any bytes are read, or refused, as the document says; what is read is written as it stood. -/
import Derived.Test.YtajkjbhfkeakhaaKnown8
import Derived.Test.YtajkjbhfkeakhaaGoodAt8
import Derived.Test.YtajkjbhfkeakhaaDBytes2
import Derived.Test.YtajkjbhfkeakhaaRBytes
import Derived.Test.YtajkjbhfkeakhaaDRead4
import Derived.Test.YtajkjbhfkeakhaaRRead3
import Derived.Test.YtajkjbhfkeakhaaDSame
import Derived.Test.YtajkjbhfkeakhaaRefSame
import Derived.Test.YtajkjbhfkeakhaaGood8
import Derived.Deep.RegionHeld3
import Derived.Deep.CutBlock
namespace Go.Proofs.Ytajkjbhfkeakhaa
open Go.RowKit
set_option linter.unusedSimpArgs false
set_option linter.unusedVariables false

theorem good_fits {d : Dl} (h : d.h.length = 32) : (goodD d).Fits := by
  refine ⟨?_, ?_, ?_, h⟩
  · intro x hx
    replace hx : x ∈ [d.aD % 3, d.aU % 8, d.id % 1073741825, d.ver % 1048577, if d.k % 3 = 0 then 0 else d.wD % 3, if d.k % 3 = 0 then 0 else d.wU % 8] := hx
    by_cases h0 : d.k % 3 = 0
    · simp only [if_pos h0, List.mem_cons, List.not_mem_nil, or_false] at hx
      omega
    · simp only [if_neg h0, List.mem_cons, List.not_mem_nil, or_false] at hx
      omega
  · have : (goodD d).k = 1 + d.k % 3 := rfl
    omega
  · have : (goodD d).k = 1 + d.k % 3 := rfl
    omega
theorem good_chk {d : Dl} {r : Nat} {o : List Cp} (h1 : d.k % 3 = 0 → Made r o) (h2 : d.k % 3 ≠ 0 → o = []) : chkD (goodD d) o = 0 := by
  have hu : (userS (goodD d).aD (goodD d).aU && upS 1073741824 (goodD d).id && upS 1048576 (goodD d).ver) = true := by
    show (userS (d.aD % 3) (d.aU % 8) && upS 1073741824 (d.id % 1073741825) && upS 1048576 (d.ver % 1048577)) = true
    simp only [userS, upS, Bool.and_eq_true, decide_eq_true_eq]
    omega
  rw [chkD, if_pos hu]
  by_cases h : d.k % 3 = 0
  · have hk : (goodD d).k = 1 := by show 1 + d.k % 3 = 1; omega
    have hD : (goodD d).wD = 0 := by show (if d.k % 3 = 0 then (0 : Int) else _) = 0; rw [if_pos h]
    have hU : (goodD d).wU = 0 := by show (if d.k % 3 = 0 then (0 : Int) else _) = 0; rw [if_pos h]
    rw [if_pos hk, hD, hU, editS, (h1 h).plain.chk, if_neg (fun h => h rfl), if_pos ⟨rfl, rfl⟩]
  · have hk : ¬ (goodD d).k = 1 := by show ¬ 1 + d.k % 3 = 1; omega
    have hk2 : (goodD d).k = 2 ∨ (goodD d).k = 3 := by show 1 + d.k % 3 = 2 ∨ 1 + d.k % 3 = 3; omega
    have hD : (goodD d).wD = d.wD % 3 := by show (if d.k % 3 = 0 then (0 : Int) else _) = _; rw [if_neg h]
    have hU : (goodD d).wU = d.wU % 8 := by show (if d.k % 3 = 0 then (0 : Int) else _) = _; rw [if_neg h]
    rw [if_neg hk, if_pos hk2, hD, hU, h2 h, peopleS, if_pos ⟨rfl, by simp only [userS, upS, Bool.and_eq_true, decide_eq_true_eq]; omega⟩]
theorem good_read {d : Dl} {r : Nat} {o : List Cp} (hd : d.h.length = 32) (h1 : d.k % 3 = 0 → Made r o) (h2 : d.k % 3 ≠ 0 → o = []) : delP (dB (goodD d) o) = (goodD d, o, 0) :=
  delP_dB _ o (good_fits hd) (by have := opB_size (good_plain h1 h2).few; omega) (good_plain h1 h2).read (good_chk h1 h2)
theorem same_selfD (d : Dl) (o : List Cp) : sameD d o d o = true := (sameD_iff d o d o).2 ⟨rfl, rfl⟩
theorem dB_size {d : Dl} {o : List Cp} (hd : d.h.length = 32) (h : FewS o) : (dB d o).length ≤ 8134 := by
  have h1 := dB_len d o hd
  have h2 := h.le
  omega
theorem parse_at (b : List UInt8) (x : Dl) (o : List Cp) (e : Int) (hp : delP b = (x, o, e)) (v : Value) (w : World) (hr : Reads w v (B b)) (hbl : b.length ≤ 140737488355328) :
    Calls Try.prog 14 #[v] w fun en w' => ∃ v' es, x.cells v' = es ∧ en = .returned (.tuple #[.agg es.toArray, .int .i64 e]) ∧ HasC w' w.heap.size v' o ∧ Below w.heap.size w w' := by
  refine (dParse_any v b w hr hbl).mono ?_
  rintro _ w' ⟨v', rfl, h1, h2⟩
  rw [hp] at h1
  rw [hp]
  exact ⟨v', _, rfl, rfl, h1, h2⟩
theorem rparse_at (b : List UInt8) (x : Dl) (o : List Cp) (e : Int) (hp : delP b = (x, o, e)) (v : Value) (w : World) (hr : Reads w v (B b)) (hbl : b.length ≤ 140737488355328) :
    Calls Try.prog 17 #[v] w fun en w' => ∃ v' es, x.cells v' = es ∧ en = .returned (.tuple #[.agg es.toArray, .int .i64 e]) ∧ HasC w' w.heap.size v' o ∧ Below w.heap.size w w' := by
  refine (rParse_any v b w hr hbl).mono ?_
  rintro _ w' ⟨v', rfl, h1, h2⟩
  rw [hp] at h1
  rw [hp]
  exact ⟨v', _, rfl, rfl, h1, h2⟩
theorem same_at (d : Dl) (o : List Cp) (hd : d.h.length = 32) (hl : o.length ≤ 1048576) (va vb : Value) (xs ys : List Value) (hx : d.cells va = xs) (hy : d.cells vb = ys) (w : World) (ha : RC w va o) (hb : RC w vb o) :
    Calls Try.prog 15 #[.agg xs.toArray, .agg ys.toArray] w fun e w' => e = .returned (.bool true) ∧ Below w.heap.size w w' := by
  rw [← hx, ← hy]
  have h := dSame_any d d hd hd va vb o o w ha hb hl hl
  rw [same_selfD] at h
  exact h
theorem bytes_at (d : Dl) (hd : d.h.length = 32) (v : Value) (es : List Value) (he : d.cells v = es) (o : List Cp) (w : World) (hv : RC w v o) (hf : FewS o) :
    Calls Try.prog 13 #[.agg es.toArray] w fun e w' => ∃ g cap, e = .returned (.slice (some ⟨g, 0, none⟩) (84 + partsN o) cap) ∧ w.heap.size ≤ g ∧ Owns w' 5 g cap (84 + partsN o) (B (dB d o)) ∧ Below w.heap.size w w' := by
  rw [← he]
  exact dBytes_any d hd v o w hv hf
theorem rbytes_at (d : Dl) (hd : d.h.length = 32) (v : Value) (es : List Value) (he : d.cells v = es) (o : List Cp) (w : World) (hv : RC w v o) (hf : FewS o) :
    Calls Try.prog 16 #[.agg es.toArray] w fun e w' => ∃ g cap, e = .returned (.slice (some ⟨g, 0, none⟩) (84 + partsN o) cap) ∧ w.heap.size ≤ g ∧ Owns w' 5 g cap (84 + partsN o) (B (dB d o)) ∧ Below w.heap.size w w' := by
  rw [← he]
  exact rBytes_any d hd v o w hv hf
theorem chk_few {o : List Cp} (h : chkS o = 0) (hl : o.length ≤ 40) : FewS o := by
  rw [chkS, if_neg (by omega)] at h
  refine ⟨by omega, ?_⟩
  clear hl
  induction o with
  | nil => intro c hc; cases hc
  | cons x o ih =>
    rw [chkL] at h
    by_cases hx : chkP x ≠ 0
    · rw [if_pos hx] at h
      exact absurd h hx
    · rw [if_neg hx] at h
      have hx0 : chkP x = 0 := Decidable.not_not.1 hx
      intro c hc
      rcases List.mem_cons.1 hc with rfl | hc
      · unfold chkP at hx0
        repeat' split at hx0
        all_goals omega
      · exact ih h c hc
theorem delP_few (b : List UInt8) : (delP b).1.h.length = 32 ∧ (delP b).2.1.length ≤ 40 := by
  have h1 := fldV_len (b, 0)
  have h2 := (opP_size (fldT (b, 0))).2
  have h3 : Dl.zero.h.length = 32 := Dl.zero_len
  unfold delP
  generalize fldV (b, 0) = V at *
  generalize opP (fldT (b, 0)) = X at *
  generalize endS (fldN (b, 0)) = e0 at *
  repeat' split
  all_goals first | exact ⟨h3, Nat.zero_le _⟩ | exact ⟨h1, h2⟩
theorem Owns.low8 {w : World} {e : TypeId} {g cap n : Nat} {l : List UInt8} (h : Owns w e g cap n (B l)) (k : Nat) (hk : k ≤ n) : Owns w e g cap k (B (l.take k)) := by
  have hl : l.length = n := by have := h.1; rwa [B_length] at this
  refine Owns.pre (ys := B (l.drop k)) (m := n - k) ?_ (by rw [B_length, List.length_take]; omega)
  rw [← B_append, List.take_append_drop, show k + (n - k) = n by omega]
  exact h
theorem byte_at8 (l : List UInt8) (j : Nat) (h : j < l.length) : (B l)[j]? = some (.int .u8 (l.getD j 0).toNat) := by
  rw [B_get, List.getD_eq_getElem?_getD, List.getElem?_eq_getElem h]
  rfl
theorem add_block8 (a : Addr) (j : Nat) : (a.add j).block = a.block := by unfold Addr.add; split <;> rfl
theorem Owns.setByte8 {w : World} {e : TypeId} {g cap n : Nat} {l : List UInt8} (h : Owns w e g cap n (B l)) (j : Nat) (v : Int) (h0 : 0 ≤ v) (h1 : v < 256) :
    Owns (w.setCell ⟨g, j, none⟩ (.int .u8 v)) e g cap n (B (l.set j (UInt8.ofNat v.toNat))) := by
  obtain ⟨l1, l2, l3, cur, hg, h4, h5⟩ := h
  have hu : Value.int .u8 v = Value.int .u8 (UInt8.ofNat v.toNat).toNat := by
    rw [UInt8.toNat_ofNat']
    congr 1
    omega
  rw [setCell_eq_setRow w g j cur e (0, 0) _ hg, hu]
  refine ⟨by rw [B_length, List.length_set]; rw [B_length] at l1; exact l1, l2, l3, _, setRow_heap w g cur _ e _ hg, by rw [Array.size_setIfInBounds]; exact h4, ?_⟩
  rw [Array.toList_setIfInBounds, List.take_set, h5]
  simp [B, List.map_set]
theorem within_nat (a n : Int) (h0 : 0 < n) (h1 : n ≤ 2147483648) (w : World) :
    Calls Try.prog 12 #[.int .i64 a, .int .i64 n] w fun e w' => ∃ m : Nat, (m : Int) < n ∧ e = .returned (.int .i64 (m : Int)) ∧ w' = w := by
  refine (within8_any a n h0 h1 w).mono ?_
  rintro _ w' ⟨rfl, hw⟩
  have h2 := Int.emod_nonneg a (b := n) (by omega)
  have h3 := Int.emod_lt_of_pos a h0
  exact ⟨(a % n).toNat, by omega, by rw [Int.toNat_of_nonneg h2], hw⟩
section
variable {P : Program} {ops : Array Oper} (w : World)
theorem wp_append_src8 {o : Oper} {a : Act} {K : Act → World → Prop} {Q : Exit → Act → World → Prop} (s x : Operand) (t tx : TypeId)
    (ho : o.op = .call { callee := .builtin .append, args := #[s, x], argTypes := #[t, tx] })
    (e : TypeId) (i : TypeInfo) (z : Value) (ht : P.underlying t = some (.slice e)) (hi : P.info? e = some i) (hz : i.zero = some z) (hsize : i.size = 1) (hby : i.bytes = 1) (hzs : z.cells.size = 1)
    (g cap n : Nat) (xs : List Value) (hs : a.eval s = .slice (some ⟨g, 0, none⟩) n cap) (hown : Owns w e g cap n xs)
    (y : Value) (m : Nat) (news : List Value) (hx : a.eval x = y) (hsrc : Src P 1 tx y m news w) (hb : n + m ≤ 140737488355328)
    (h : ∀ g' cap' w', Grew e w g cap n xs w' g' cap' (n + m) (xs ++ news) → K (a.put o.dst (.slice (some ⟨g', 0, none⟩) (n + m) cap')) w') : o.wp P a w K Q := by
  obtain ⟨g', cap', w', hr, hG⟩ := run_append_src (P := P) w t tx o.type e i z ht hi hz hsize hby hzs g cap n xs hown y m news hsrc hb
  unfold Oper.wp execOp
  simp only [ho, resolve, invoke, builtin, Sem.run_bind, Sem.run_pure, Result.andThen_ok, List.map_toArray, List.map_cons, List.map_nil, hs, hx, hr]
  exact h g' cap' w' hG
end
theorem opparse_at (b : List UInt8) (q : List Cp) (e : Int) (hp : opP b = (q, e)) (v : Value) (w : World) (hr : Reads w v (B b)) (hbl : b.length ≤ 140737488355328) :
    Calls Try.prog 18 #[v] w fun en w' => ∃ v', en = .returned (.tuple #[v', .int .i64 e]) ∧ HasC w' w.heap.size v' q ∧ Below w.heap.size w w' := by
  have h := dOpParse_any v b w hr hbl
  rw [hp] at h
  exact h
theorem ropparse_at (b : List UInt8) (q : List Cp) (e : Int) (hp : opP b = (q, e)) (v : Value) (w : World) (hr : Reads w v (B b)) (hbl : b.length ≤ 140737488355328) :
    Calls Try.prog 19 #[v] w fun en w' => ∃ v', en = .returned (.tuple #[v', .int .i64 e]) ∧ HasC w' w.heap.size v' q ∧ Below w.heap.size w w' := by
  have h := rOpParse_any v b w hr hbl
  rw [hp] at h
  exact h
theorem refsame_at (q : List Cp) (hq : q.length ≤ 40) (va vb : Value) (w : World) (ha : RC w va q) (hb : RC w vb q) :
    Calls Try.prog 20 #[va, vb] w fun e w' => e = .returned (.bool true) ∧ Below w.heap.size w w' := by
  have h := refSame_any va vb q q w ha hb (by omega) (by omega)
  rw [(sameL_iff q q).2 rfl] at h
  exact h
/-- Four slices in a row, each of which reads as bytes. -/
def Rows4 (w : World) (gr : Nat) : Prop := ∀ j, j < 4 → ∃ v l, w.cell? ⟨gr, j, none⟩ = some v ∧ Reads w v (B l) ∧ l.length ≤ 8334
theorem Rows4.later {w w1 : World} {gr : Nat} (h : Rows4 w gr) (hb : Below w.heap.size w w1) : Rows4 w1 gr := fun j hj => by
  obtain ⟨v, l, h1, h2, h3⟩ := h j hj
  exact ⟨v, l, cell_later hb h1, h2.later hb, h3⟩
theorem rows4_new (w : World) (v0 v1 v2 v3 : Value) (l0 l1 l2 l3 : List UInt8) (h0 : Reads w v0 (B l0)) (h1 : Reads w v1 (B l1)) (h2 : Reads w v2 (B l2)) (h3 : Reads w v3 (B l3))
    (k0 : l0.length ≤ 8334) (k1 : l1.length ≤ 8334) (k2 : l2.length ≤ 8334) (k3 : l3.length ≤ 8334) : Rows4 (w.alloc (.cells #[v0, v1, v2, v3] 31)) w.heap.size := by
  have hb : Below w.heap.size w (w.alloc (.cells #[v0, v1, v2, v3] 31)) := (Below.refl _ _).alloc (Nat.le_refl _) _
  have hc : ∀ j v, (#[v0, v1, v2, v3] : Array Value)[j]? = some v → (w.alloc (.cells #[v0, v1, v2, v3] 31)).cell? ⟨w.heap.size, j, none⟩ = some v := fun j v h => by
    rw [cell_of_row _ _ j _ _ _ (heap_alloc_new w _)]
    exact h
  intro j hj
  match j, hj with
  | 0, _ => exact ⟨v0, l0, hc 0 _ rfl, h0.later hb, k0⟩
  | 1, _ => exact ⟨v1, l1, hc 1 _ rfl, h1.later hb, k1⟩
  | 2, _ => exact ⟨v2, l2, hc 2 _ rfl, h2.later hb, k2⟩
  | 3, _ => exact ⟨v3, l3, hc 3 _ rfl, h3.later hb, k3⟩

set_option maxRecDepth 100000 in
set_option maxHeartbeats 16000000 in
theorem reads8_any (d : Dl) (v : Value) (o : List Cp) (hd : d.h.length = 32) (a : Int) (ao : Option Addr) (len cap : Nat) (ato : Option Addr) (atl atc : Nat) (bo : Option Addr) (bc : Nat) (byl : List UInt8) (ct : Int) (hct : -9223372036854775808 ≤ ct ∧ ct ≤ 9223372036854775807) (ro : Option Addr) (rc : Nat) (raw : List UInt8) (w : World)
    (hv : InOp w v o) (hns : NS w ao len) (hcap : len ≤ cap) (hlen : len ≤ 9223372036854775807) (hat : NS w ato atl) (hatl : atl ≤ 9223372036854775807) (hby : Reads w (.slice bo byl.length bc) (B byl)) (hbyl : byl.length ≤ maxLen) (hraw : Reads w (.slice ro raw.length rc) (B raw)) (hrawl : raw.length ≤ maxLen) :
    Calls Try.prog 3 #[.agg (d.cells v).toArray, .int .i64 a, .slice ao len cap, .slice ato atl atc, .slice bo byl.length bc, .int .i64 ct, .slice ro raw.length rc] w fun e w' => e = .returned (.bool true) ∧ Below w.heap.size w w' := by
  obtain ⟨cs, hcs⟩ : ∃ cs, d.cells v = cs := ⟨_, rfl⟩
  rw [hcs]
  have HCS := hid hcs
  have HD := hid hd
  have HNS := hid hns
  have HV := hid hv
  have HI := hid (show (Try.prog.info? 29).map (·.size) = some 40 by kernel_rfl)
  have HZ := hid (show (Try.prog.info? 29).bind (fun i => i.zero.map fun z => z.cells.toList) = some (Dl.zero.cells (.slice none 0 0)) by kernel_rfl)
  have HCL := hid (show cs.length = 40 by rw [← hcs]; exact Dl.len hd)
  have HCW := hid (show ∀ (L : Nat) (wx : World), DW wx 29 L d v → wx.rangeAt L 0 cs from fun L wx h => by rw [← hcs]; exact h.whole)
  obtain ⟨L, hL⟩ : ∃ L, w.heap.size = L := ⟨_, rfl⟩
  clear hcs hd hns hv
  obtain ⟨i0, hi, hz0, hz1, hz2⟩ := info_parts Try.infoByte
  have HAT := hid hat
  have HBY := hid hby
  have HRW := hid hraw
  obtain ⟨nb, hnb⟩ : ∃ nb, byl.length = nb := ⟨_, rfl⟩
  obtain ⟨nr, hnr⟩ : ∃ nr, raw.length = nr := ⟨_, rfl⟩
  rw [hnb] at hbyl HBY ⊢
  rw [hnr] at hrawl HRW ⊢
  have HNB := hid hnb
  have HNR := hid hnr
  have hbyl2 : nb ≤ 9223372036854775807 := hbyl
  have hrawl2 : nr ≤ 9223372036854775807 := hrawl
  clear hat hby hraw hnb hnr hbyl hrawl
  go_enter Try.func3, Try.ntmps3
  go_wp2_with (show wpList _ _ _ (⟨some 7, Op.box _ _, _, _, _, _⟩ :: _) _ _; go_must (refine wpList_box_blk rfl 29 _ rfl cs rfl L hL ?_); intro w1 hB1 hb1 hs1; have HW1 := hid (show DW w1 29 L d v from DW.mk HD.out (by rw [HCS.out]; exact hB1)); clear hB1; replace hb1 := hid hb1)
  refine (known8_any _).mono ?_
  rintro _ w2 ⟨rfl, hb2⟩
  have HW2 := hid (HW1.out.later hb2)
  have Hb2 := hid (show Below L w w2 from hb1.out.trans (hb2.mono (by omega)))
  clear hb1 hb2 HW1 hs1
  go_wp2_with (show wpList _ _ _ (⟨some 33, Op.load _ _, _, _, _, _⟩ :: _) _ _; go_must (refine wpList_load_mid rfl 29 _ rfl L 0 rfl cs _ (HCW.out _ _ HW2.out) Try.underlying29 rfl (by rw [HCL.out]; exact HI.out) ?_))
  have HFC := hid (show Calls Try.prog 10 #[.agg cs.toArray] w2 (fun e w' => e = .returned (.bool (few4S o)) ∧ Below w2.heap.size w2 w') by rw [← HCS.out]; exact few8_any d HD.out v o _ (HV.out.later (by rw [hL]; exact Hb2.out)))
  refine HFC.out.mono ?_
  rintro _ w3 ⟨rfl, hb3⟩
  have HW3 := hid (HW2.out.later hb3)
  have Hb3 := hid (show Below L w w3 from Hb2.out.trans (hb3.mono (by have := Hb2.out.size; omega)))
  clear HFC hb3 HW2 Hb2
  by_cases hfw : few4S o = true
  case neg =>
    rw [show few4S o = false by simpa using hfw]
    go_wp2_with fail
    go_ret
    exact ⟨rfl, by rw [hL]; exact Hb3.out⟩
  rw [hfw]
  have HF := hid ((few4_iff o).1 hfw)
  clear hfw
  by_cases h200 : 200 < nr
  · have h200' : (200 : Int) < (nr : Int) := by omega
    go_wp2_with fail
    go_ret
    exact ⟨rfl, by rw [hL]; exact Hb3.out⟩
  have h200' : ¬ (200 : Int) < (nr : Int) := by omega
  go_upto_region 5 with fail
  obtain ⟨r, hr⟩ : ∃ r : Nat, a % 100 = r := ⟨(a % 100).toNat, by omega⟩
  have hr100 : r ≤ 120 := by omega
  have HR := hid hr
  obtain ⟨g0, hg0⟩ : ∃ g, w3.drew.heap.size = g := ⟨_, rfl⟩
  have hLg0 : L < g0 := by have := HW3.out.blk.lt; rw [← hg0]; exact this
  have HS := hid (show DW w3.drew 29 L d v ∧ Below L w w3.drew from ⟨HW3.out.kept rfl, Hb3.out.drew⟩)
  clear hr HW3 Hb3
  go_cut [15] (fun s w' => GoodAt d v L r w s w')
  case first =>
    refine wp_region_held_drew (S := fun w' => DW w' 29 L d v ∧ Below L w w') (by kernel_rfl) (HS.out) (fun hHeld => ?_)
    refine wpAnyH_take (i := 0) (v := _) rfl (by kernel_rfl) (by kernel_rfl) (by kernel_rfl) (fun _ _ _ h => h) (yieldsIf_load_mid (by rfl) _ _ rfl _ _ rfl cs _ (fun w hSw => (HCW.out _ _ hSw.1)) Try.underlying29 rfl (by rw [HCL.out]; exact HI.out)) hHeld ?_
    try simp only [Act.put, List.setIfInBounds_toArray, List.set_cons_zero, List.set_cons_succ, List.getElem_toArray, List.getElem_cons_zero, List.getElem_cons_succ]
    refine wpAnyH_take (i := 1) (v := .int .i64 a) rfl (by kernel_rfl) (by kernel_rfl) (by kernel_rfl) (fun _ _ _ h => h) (Or.inl ⟨by rfl, by intro w hSw; go_simp⟩) hHeld ?_
    try simp only [Act.put, List.setIfInBounds_toArray, List.set_cons_zero, List.set_cons_succ, List.getElem_toArray, List.getElem_cons_zero, List.getElem_cons_succ]
    refine wpAnyH_take (i := 3) (v := .slice ao len cap) rfl (by kernel_rfl) (by kernel_rfl) (by kernel_rfl) (fun _ _ _ h => h) (Or.inl ⟨by rfl, by intro w hSw; go_simp⟩) hHeld ?_
    try simp only [Act.put, List.setIfInBounds_toArray, List.set_cons_zero, List.set_cons_succ, List.getElem_toArray, List.getElem_cons_zero, List.getElem_cons_succ]
    refine wpAnyH_ready (rs := [2, 5]) (by kernel_rfl) (by simp) ?_
    refine AllReadyH.cons rfl (fun K hK => ?_) (AllReadyH.cons rfl (fun K hK => ?_) (AllReadyH.nil))
    · go_simp
      refine (within8_any a 100 (by omega) (by omega) _).mono ?_
      rintro _ wz ⟨rfl, hwz⟩
      rw [HR.out, hwz]
      clear hwz wz
      refine hK.out _ _ (hHeld) (fun hHeld => ?_)
      clear hK K
      try simp only [Act.put, List.setIfInBounds_toArray, List.set_cons_zero, List.set_cons_succ, List.getElem_toArray, List.getElem_cons_zero, List.getElem_cons_succ]
      refine wpAnyH_ready (rs := [4, 5]) (by kernel_rfl) (by simp) ?_
      refine AllReadyH.cons rfl (fun K hK => ?_) (AllReadyH.cons rfl (fun K hK => ?_) (AllReadyH.nil))
      · go_simp
        refine (good8_at d HD.out v cs HCS.out o _ (HV.out.later (by rw [hL]; exact hHeld.2)).1 r hr100 ao len cap (HNS.out.later (by rw [hL]; exact hHeld.2)) hcap hlen).mono ?_
        rintro _ w4 ⟨v4, o4, ds, hds, rfl, hH4, hb4, hm1, hm2⟩
        have hHeld4 : DW w4 29 L d v ∧ Below L w w4 := ⟨hHeld.1.later hb4, hHeld.2.trans (hb4.mono (by have := hHeld.2.size; omega))⟩
        have HH4 := hid (show HasC w4 g0 v4 o4 from by rw [hg0] at hH4; exact hH4)
        have hs4 : g0 ≤ w4.heap.size := by have := hb4.size; omega
        clear hb4 hH4 hHeld
        have HDS := hid hds
        have HM1 := hid hm1
        have HM2 := hid hm2
        have HLD := hid (show ds.length = 40 by rw [← hds]; exact Dl.len (by exact HD.out))
        have HOD := hid (show ∀ x ∈ ds, x.oneCell' = true by rw [← hds]; exact Dl.one (one4 HH4.out))
        clear hds hm1 hm2
        refine hK.out _ _ (hHeld4) (fun hHeld => ?_)
        clear hK K hHeld4
        try simp only [Act.put, List.setIfInBounds_toArray, List.set_cons_zero, List.set_cons_succ, List.getElem_toArray, List.getElem_cons_zero, List.getElem_cons_succ]
        refine wpAnyH_ready (rs := [5]) (by kernel_rfl) (by simp) ?_
        refine AllReadyH.cons rfl (fun K hK => ?_) (AllReadyH.nil)
        obtain ⟨g4, hg4⟩ : ∃ g4, w4.heap.size = g4 := ⟨_, rfl⟩
        refine Eq.mpr (if_pos (by rfl)) ?_
        refine wp_alloc_blk 29 rfl _ HZ.out g4 hg4 ?_
        intro w5 hB5 hb5 hz5
        have hHeld5 : DW w5 29 L d v ∧ Below L w w5 := ⟨hHeld.1.kept (hb5.block L (by have := hHeld.1.blk.lt; omega)), hHeld.2.trans (hb5.mono (by omega))⟩
        have HS5 := hid (show HasC w5 g0 v4 o4 ∧ ∀ k, blkOf v4 = some k → k ≠ g4 from ⟨HH4.out.later (by rw [hg4]; exact hb5), HH4.out.apart (Or.inr (by omega))⟩)
        have HB5 := hid hB5
        clear hB5 hb5 hHeld
        refine hK.out _ _ (hHeld5) (fun hHeld => ?_)
        clear hK K hHeld5
        try simp only [Act.put, List.setIfInBounds_toArray, List.set_cons_zero, List.set_cons_succ, List.getElem_toArray, List.getElem_cons_zero, List.getElem_cons_succ]
        refine wpAnyH_ready (rs := [6]) (by kernel_rfl) (by simp) ?_
        refine AllReadyH.cons rfl (fun K hK => ?_) (AllReadyH.nil)
        refine Eq.mpr (if_pos (by rfl)) ?_
        refine wp_store_list 29 _ _ rfl g4 0 ds rfl rfl (HB5.out.there (by rw [HLD.out, Dl.len Dl.zero_len]; omega)) (by rw [HLD.out]; exact HI.out) HOD.out ?_
        intro w6 hw6
        have HX := hid (show (DW w6 29 L d v ∧ Below L w w6) ∧ GoodAt d v L r w (.pointer (some ⟨g4, 0, none⟩)) w6 by
          rw [hw6]
          exact goodAt_store HD.out hHeld HB5.out (HS5.out.1) (HS5.out.2) (by omega) (by omega) HDS.out HM1.out HM2.out)
        clear hw6
        refine hK.out _ _ (HX.out.1) (fun hHeld => ?_)
        clear hK K
        try simp only [Act.put, List.setIfInBounds_toArray, List.set_cons_zero, List.set_cons_succ, List.getElem_toArray, List.getElem_cons_zero, List.getElem_cons_succ]
        refine wpAnyH_done (by kernel_rfl) ?_ _
        go_wp2_with fail
        go_meet
        exact HX.out.2
      · refine Eq.mpr (if_pos (by rfl)) ?_
        refine wp_alloc_blk 29 rfl _ HZ.out g0 hg0 ?_
        intro w5 hB5 hb5 hz5
        have hHeld5 : DW w5 29 L d v ∧ Below L w w5 := ⟨hHeld.1.kept (hb5.block L hLg0), hHeld.2.trans (hb5.mono (by omega))⟩
        have HB5 := hid hB5
        clear hB5 hb5 hHeld
        refine hK.out _ _ (hHeld5) (fun hHeld => ?_)
        clear hK K hHeld5
        try simp only [Act.put, List.setIfInBounds_toArray, List.set_cons_zero, List.set_cons_succ, List.getElem_toArray, List.getElem_cons_zero, List.getElem_cons_succ]
        refine wpAnyH_ready (rs := [4]) (by kernel_rfl) (by simp) ?_
        refine AllReadyH.cons rfl (fun K hK => ?_) (AllReadyH.nil)
        go_simp
        refine (good8_at d HD.out v cs HCS.out o _ (HV.out.later (by rw [hL]; exact hHeld.2)).1 r hr100 ao len cap (HNS.out.later (by rw [hL]; exact hHeld.2)) hcap hlen).mono ?_
        rintro _ w4 ⟨v4, o4, ds, hds, rfl, hH4, hb4, hm1, hm2⟩
        have hHeld4 : DW w4 29 L d v ∧ Below L w w4 := ⟨hHeld.1.later hb4, hHeld.2.trans (hb4.mono (by have := hHeld.2.size; omega))⟩
        have HH4 := hid (show HasC w4 (g0 + 1) v4 o4 from by rw [hz5] at hH4; exact hH4)
        have HB4 := hid (HB5.out.later hb4)
        clear hb4 hH4 hHeld
        have HDS := hid hds
        have HM1 := hid hm1
        have HM2 := hid hm2
        have HLD := hid (show ds.length = 40 by rw [← hds]; exact Dl.len (by exact HD.out))
        have HOD := hid (show ∀ x ∈ ds, x.oneCell' = true by rw [← hds]; exact Dl.one (one4 HH4.out))
        clear hds hm1 hm2
        refine hK.out _ _ (hHeld4) (fun hHeld => ?_)
        clear hK K hHeld4
        try simp only [Act.put, List.setIfInBounds_toArray, List.set_cons_zero, List.set_cons_succ, List.getElem_toArray, List.getElem_cons_zero, List.getElem_cons_succ]
        refine wpAnyH_ready (rs := [6]) (by kernel_rfl) (by simp) ?_
        refine AllReadyH.cons rfl (fun K hK => ?_) (AllReadyH.nil)
        refine Eq.mpr (if_pos (by rfl)) ?_
        refine wp_store_list 29 _ _ rfl g0 0 ds rfl rfl (HB4.out.there (by rw [HLD.out, Dl.len Dl.zero_len]; omega)) (by rw [HLD.out]; exact HI.out) HOD.out ?_
        intro w6 hw6
        have HX := hid (show (DW w6 29 L d v ∧ Below L w w6) ∧ GoodAt d v L r w (.pointer (some ⟨g0, 0, none⟩)) w6 by
          rw [hw6]
          exact goodAt_store HD.out hHeld HB4.out (HH4.out) (HH4.out.apart (Or.inl (by omega))) (by omega) (by omega) HDS.out HM1.out HM2.out)
        clear hw6
        refine hK.out _ _ (HX.out.1) (fun hHeld => ?_)
        clear hK K
        try simp only [Act.put, List.setIfInBounds_toArray, List.set_cons_zero, List.set_cons_succ, List.getElem_toArray, List.getElem_cons_zero, List.getElem_cons_succ]
        refine wpAnyH_done (by kernel_rfl) ?_ _
        go_wp2_with fail
        go_meet
        exact HX.out.2
    · refine Eq.mpr (if_pos (by rfl)) ?_
      refine wp_alloc_blk 29 rfl _ HZ.out g0 hg0 ?_
      intro w5 hB5 hb5 hz5
      have hHeld5 : DW w5 29 L d v ∧ Below L w w5 := ⟨hHeld.1.kept (hb5.block L hLg0), hHeld.2.trans (hb5.mono (by omega))⟩
      have HB5 := hid hB5
      clear hB5 hb5 hHeld
      refine hK.out _ _ (hHeld5) (fun hHeld => ?_)
      clear hK K hHeld5
      try simp only [Act.put, List.setIfInBounds_toArray, List.set_cons_zero, List.set_cons_succ, List.getElem_toArray, List.getElem_cons_zero, List.getElem_cons_succ]
      refine wpAnyH_ready (rs := [2]) (by kernel_rfl) (by simp) ?_
      refine AllReadyH.cons rfl (fun K hK => ?_) (AllReadyH.nil)
      go_simp
      refine (within8_any a 100 (by omega) (by omega) _).mono ?_
      rintro _ wz ⟨rfl, hwz⟩
      rw [HR.out, hwz]
      clear hwz wz
      refine hK.out _ _ (hHeld) (fun hHeld => ?_)
      clear hK K
      try simp only [Act.put, List.setIfInBounds_toArray, List.set_cons_zero, List.set_cons_succ, List.getElem_toArray, List.getElem_cons_zero, List.getElem_cons_succ]
      refine wpAnyH_ready (rs := [4]) (by kernel_rfl) (by simp) ?_
      refine AllReadyH.cons rfl (fun K hK => ?_) (AllReadyH.nil)
      go_simp
      refine (good8_at d HD.out v cs HCS.out o _ (HV.out.later (by rw [hL]; exact hHeld.2)).1 r hr100 ao len cap (HNS.out.later (by rw [hL]; exact hHeld.2)) hcap hlen).mono ?_
      rintro _ w4 ⟨v4, o4, ds, hds, rfl, hH4, hb4, hm1, hm2⟩
      have hHeld4 : DW w4 29 L d v ∧ Below L w w4 := ⟨hHeld.1.later hb4, hHeld.2.trans (hb4.mono (by have := hHeld.2.size; omega))⟩
      have HH4 := hid (show HasC w4 (g0 + 1) v4 o4 from by rw [hz5] at hH4; exact hH4)
      have HB4 := hid (HB5.out.later hb4)
      clear hb4 hH4 hHeld
      have HDS := hid hds
      have HM1 := hid hm1
      have HM2 := hid hm2
      have HLD := hid (show ds.length = 40 by rw [← hds]; exact Dl.len (by exact HD.out))
      have HOD := hid (show ∀ x ∈ ds, x.oneCell' = true by rw [← hds]; exact Dl.one (one4 HH4.out))
      clear hds hm1 hm2
      refine hK.out _ _ (hHeld4) (fun hHeld => ?_)
      clear hK K hHeld4
      try simp only [Act.put, List.setIfInBounds_toArray, List.set_cons_zero, List.set_cons_succ, List.getElem_toArray, List.getElem_cons_zero, List.getElem_cons_succ]
      refine wpAnyH_ready (rs := [6]) (by kernel_rfl) (by simp) ?_
      refine AllReadyH.cons rfl (fun K hK => ?_) (AllReadyH.nil)
      refine Eq.mpr (if_pos (by rfl)) ?_
      refine wp_store_list 29 _ _ rfl g0 0 ds rfl rfl (HB4.out.there (by rw [HLD.out, Dl.len Dl.zero_len]; omega)) (by rw [HLD.out]; exact HI.out) HOD.out ?_
      intro w6 hw6
      have HX := hid (show (DW w6 29 L d v ∧ Below L w w6) ∧ GoodAt d v L r w (.pointer (some ⟨g0, 0, none⟩)) w6 by
        rw [hw6]
        exact goodAt_store HD.out hHeld HB4.out (HH4.out) (HH4.out.apart (Or.inl (by omega))) (by omega) (by omega) HDS.out HM1.out HM2.out)
      clear hw6
      refine hK.out _ _ (HX.out.1) (fun hHeld => ?_)
      clear hK K
      try simp only [Act.put, List.setIfInBounds_toArray, List.set_cons_zero, List.set_cons_succ, List.getElem_toArray, List.getElem_cons_zero, List.getElem_cons_succ]
      refine wpAnyH_done (by kernel_rfl) ?_ _
      go_wp2_with fail
      go_meet
      exact HX.out.2
  case rest =>
  obtain ⟨g, v7, o7, rfl, hG, hC, hW7, hb7, hm1, hm2⟩ := hcut
  have HG := hid hG
  have HC := hid hC
  have HW7 := hid hW7
  have Hb7 := hid hb7
  have HP := hid (good_plain hm1 hm2)
  clear hG hC hW7 hb7 hg0 hLg0
  have HRD := hid (good_read HD.out hm1 hm2)
  have HZB := hid (dB_size (d := goodD d) HD.out HP.out.few)
  have HRS := hid (show raw.length ≤ 200 by rw [HNR.out]; omega)
  have HGL := hid (show (goodD d).h.length = 32 from HD.out)
  obtain ⟨gd, hgd⟩ : ∃ gd, goodD d = gd := ⟨_, rfl⟩
  rw [hgd] at HG HRD HZB HGL
  clear hm1 hm2 hgd HS HR hr100
  obtain ⟨gs, hgs⟩ : ∃ gs, gd.cells v7 = gs := ⟨_, rfl⟩
  have HGS := hid hgs
  have HGC := hid (show gs.length = 40 by rw [← hgs]; exact Dl.len HGL.out)
  have HGW := hid (show ∀ wx, DW wx 29 g gd v7 → wx.rangeAt g 0 gs from fun wx h => by rw [← hgs]; exact h.whole)
  clear hgs
  have HOUT := hid (show L < wc.heap.size from HW7.out.blk.lt)
  go_wp2_with (show wpList _ _ _ (⟨some 46, Op.load _ _, _, _, _, _⟩ :: _) _ _; go_must (refine wpList_load_mid rfl 29 _ rfl g 0 rfl gs _ (HGW.out _ HG.out) Try.underlying29 rfl (by rw [HGC.out]; exact HI.out) ?_))
  refine (bytes_at gd HGL.out v7 gs HGS.out o7 _ HC.out.reads HP.out.few).mono ?_
  rintro _ w8 ⟨g8, c8, rfl, hg8, hO8, hb8⟩
  have HO8 := hid hO8
  have HG8 := hid (HG.out.later hb8)
  have HC8 := hid (HC.out.later hb8)
  have HW8 := hid (HW7.out.later hb8)
  have Hb8 := hid (show Below L w w8 from Hb7.out.trans (hb8.mono (by have := HOUT.out; omega)))
  obtain ⟨N, hN⟩ : ∃ N, 84 + partsN o7 = N := ⟨_, rfl⟩
  rw [hN] at HO8 ⊢
  have hN84 : 84 ≤ N := by omega
  have HNL := hid (show (dB gd o7).length = N by rw [dB_len _ _ HGL.out]; exact hN)
  have hN2 : N ≤ 8134 := by rw [← HNL.out]; exact HZB.out
  have HS8 := hid (show wc.heap.size ≤ w8.heap.size from hb8.size)
  clear hO8 hb8 HG HC HW7 Hb7 hg8 hN
  go_wp2_with fail
  refine (parse_at (dB gd o7) gd o7 0 HRD.out _ _ HO8.out.reads (by have := HZB.out; omega)).mono ?_
  rintro _ w9 ⟨v9, xs, hxs, rfl, hH9, hb9⟩
  have HO9 := hid (HO8.out.later hb9)
  have HG9 := hid (HG8.out.later hb9)
  have HC9 := hid (HC8.out.later hb9)
  have HW9 := hid (HW8.out.later hb9)
  have Hb9 := hid (show Below L w w9 from Hb8.out.trans (hb9.mono (by have := HOUT.out; have := HS8.out; omega)))
  have HH9 := hid hH9
  have HXS := hid hxs
  have HXL := hid (show xs.length = 40 by rw [← hxs]; exact Dl.len HGL.out)
  have HXO := hid (show ∀ x ∈ xs, x.oneCell' = true by rw [← hxs]; exact Dl.one (one4 hH9))
  have HS9 := hid (show w8.heap.size ≤ w9.heap.size from hb9.size)
  obtain ⟨X, hX⟩ : ∃ X, w9.heap.size = X := ⟨_, rfl⟩
  have hLX : L < X := by have := HOUT.out; have := HS8.out; have := HS9.out; omega
  have hgX : g < X := by rw [← hX]; exact HG9.out.blk.lt
  clear hxs hH9 hb9 HO8 HG8 HC8 HW8 Hb8
  go_upto_region 8 with (first
    | (show wpList _ _ _ (⟨some 17, Op.alloc _, _, _, _, _⟩ :: _) _ _; go_must (refine wpList_alloc_blk rfl 29 rfl _ HZ.out X hX ?_); intro w10 hB10 hb10 hs10; have HB10 := hid hB10; have Hb10 := hid hb10; clear hB10 hb10)
    | (show wpList _ _ _ (⟨none, Op.store _ (Operand.tmp 17) (Operand.tmp 51), _, _, _, _⟩ :: _) _ _; go_must (refine wpList_store_list rfl 29 _ _ rfl X 0 xs rfl rfl (HB10.out.there (by rw [HXL.out, Dl.len Dl.zero_len]; omega)) (by rw [HXL.out]; exact HI.out) HXO.out ?_); intro w11 hw11; have HX11 := hid (show DW w11 29 X gd v9 ∧ Below X w9 w11 by rw [hw11]; exact ⟨by rw [← HXS.out]; exact (DW.mk Dl.zero_len HB10.out).set_all gd HGL.out v9, below_setCells (by omega) _ _ Hb10.out⟩); clear hw11 HB10 Hb10))
  -- PART TWO
  have HC11 := hid (show HasC w11 L v7 o7 from HC9.out.later (by rw [hX]; exact HX11.out.2))
  have HH11 := hid (show RC w11 v9 o7 from (HH9.out.later (by rw [hX]; exact HX11.out.2)).reads)
  have HG11 := hid (HG9.out.later (by rw [hX]; exact HX11.out.2))
  have HW11 := hid (HW9.out.later (by rw [hX]; exact HX11.out.2))
  have HO11 := hid (HO9.out.later (by rw [hX]; exact HX11.out.2))
  have Hb11 := hid (show Below L w w11 from Hb9.out.trans (HX11.out.2.mono (by omega)))
  have HXW := hid (show w11.rangeAt X 0 xs by rw [← HXS.out]; exact HX11.out.1.whole)
  clear HC9 HG9 HW9 HO9 Hb9 HH9 HX11 hs10
  go_wp2_with (first
    | (show wpList _ _ _ (⟨some 56, Op.load _ _, _, _, _, _⟩ :: _) _ _; go_must (refine wpList_load_asked (by first | rfl | go_simp) 29 _ rfl X 0 rfl xs _ HXW.out Try.underlying29 rfl (by rw [HXL.out]; exact HI.out) ?_))
    | (show wpList _ _ _ (⟨some 57, Op.load _ _, _, _, _, _⟩ :: _) _ _; go_must (refine wpList_load_asked (by first | rfl | go_simp) 29 _ rfl g 0 rfl gs _ (HGW.out _ HG11.out) Try.underlying29 rfl (by rw [HGC.out]; exact HI.out) ?_)))
  refine (same_at gd o7 HGL.out (by have := HP.out.len; omega) v9 v7 xs gs HXS.out HGS.out _ HH11.out HC11.out.reads).mono ?_
  rintro _ w12 ⟨rfl, hb12⟩
  have HC12 := hid (HC11.out.later hb12)
  have HW12 := hid (HW11.out.later hb12)
  have HO12 := hid (HO11.out.later hb12)
  have hL11 : L < w11.heap.size := HW11.out.blk.lt
  have Hb12 := hid (show Below L w w12 from Hb11.out.trans (hb12.mono (by omega)))
  clear hb12 HC11 HW11 HO11 Hb11 HXW HH11 HG11 hL11
  have hL12 : L < w12.heap.size := HW12.out.blk.lt
  obtain ⟨Y, hY⟩ : ∃ Y, w12.heap.size = Y := ⟨_, rfl⟩
  have HE := hid (show Owns (w12.alloc (.cells #[] 5)) 5 Y 0 0 [] by rw [← hY]; exact Owns.empty w12 5)
  have HSR := hid (show Src Try.prog 1 31 (.slice (some ⟨g8, 0, none⟩) N c8) N (B (dB gd o7)) (w12.alloc (.cells #[] 5)) from by
    have h1 := Src.ofReads (P := Try.prog) (tx := 31) _ Try.underlying31 (HO12.out.alloc (.cells #[] 5)).reads (B_one _)
    rw [B_length, HNL.out] at h1
    exact h1)
  have hg8Y : g8 < Y := by rw [← hY]; exact HO12.out.lt
  go_upto_region 10 with fail
  go_cut [19] (fun s w' => ∃ g13 c13, s = .slice (some ⟨g13, 0, none⟩) N c13 ∧ Owns w' 5 g13 c13 N (B (dB gd o7)) ∧ Below Y w12 w' ∧ Y ≤ g13)
  case first =>
    go_wp2_with (at_builtin; go_must (refine wpList_append_src (P := Try.prog) _ rfl _ _ 31 31 rfl 5 i0 (.int .u8 0) Try.underlying31 hi hz0 hz1 hz2 rfl Y 0 0 [] (by go_simp) HE.out _ N (B (dB gd o7)) rfl HSR.out (by omega) ?_); intro g13 c13 w13 hG13; have HG13 := hid hG13; clear hG13)
    go_meet
    have h1 := HG13.out.own
    rw [Nat.zero_add, List.nil_append] at h1
    refine ⟨g13, c13, by simp, h1, by rw [← hY]; exact HG13.out.below ((Below.refl _ _).alloc (Nat.le_refl _) _) (by omega), ?_⟩
    rcases HG13.out.blk with h2 | h2
    · omega
    · have : (w12.alloc (.cells #[] 5)).heap.size = w12.heap.size + 1 := by simp
      omega
  case rest =>
  obtain ⟨g13, c13, rfl, hcO, hcB, hcY⟩ := hcut
  have HX13 := hid (show Owns wc 5 g13 c13 N (B (dB gd o7)) ∧ Below Y w12 wc ∧ Y ≤ g13 from ⟨hcO, hcB, hcY⟩)
  clear hcO hcB hcY HSR HE
  -- PART THREE
  have HC13 := hid (HC12.out.later (by rw [hY]; exact HX13.out.2.1))
  have HW13 := hid (HW12.out.later (by rw [hY]; exact HX13.out.2.1))
  have HO13 := hid (HO12.out.later (by rw [hY]; exact HX13.out.2.1))
  have Hb13 := hid (show Below L w wc from Hb12.out.trans (HX13.out.2.1.mono (by omega)))
  clear HC12 HW12 HO12 Hb12
  -- PART FOUR
  go_upto_block 0 with fail
  go_cut [19] (fun s w' => ∃ l : List UInt8, s = .slice (some ⟨g13, 0, none⟩) N c13 ∧ Owns w' 5 g13 c13 N (B l) ∧ DW w' 29 L d v ∧ Owns w' 5 g8 c8 N (B (dB gd o7)) ∧ Below L w w')
  case first =>
    go_wp2_with fail
    go_loopw [20] (fun i wr => ∃ (j : Nat) (l : List UInt8), j ≤ 3 ∧ i = .int .i64 j ∧ Owns wr 5 g13 c13 N (B l) ∧ DW wr 29 L d v ∧ Owns wr 5 g8 c8 N (B (dB gd o7)) ∧ Below L w wr) (fun i _ => 3 - (intOf i).toNat)
    case atStart => exact ⟨0, _, by omega, rfl, HX13.out.1, HW13.out, HO13.out, Hb13.out⟩
    case round =>
      obtain ⟨j, l, hj, rfl, hOl, hWl, hOb, hbl⟩ := hrel
      have HR := hid (show ∃ l : List UInt8, Owns wr 5 g13 c13 N (B l) ∧ DW wr 29 L d v ∧ Owns wr 5 g8 c8 N (B (dB gd o7)) ∧ Below L w wr from ⟨l, hOl, hWl, hOb, hbl⟩)
      have HOL := hid hOl
      have HWL := hid hWl
      have HOB := hid hOb
      have HBL := hid hbl
      clear hOl hWl hOb hbl
      by_cases h1 : j < atl
      case neg =>
        have h1' : ¬ (j : Int) < (atl : Int) := by omega
        go_wp2_with fail
        go_meet
        obtain ⟨l, h⟩ := HR.out
        exact ⟨l, rfl, h⟩
      have h1' : (j : Int) < (atl : Int) := by omega
      by_cases h2 : j < nb
      case neg =>
        have h2' : ¬ (j : Int) < (nb : Int) := by omega
        go_wp2_with fail
        go_meet
        obtain ⟨l, h⟩ := HR.out
        exact ⟨l, rfl, h⟩
      have h2' : (j : Int) < (nb : Int) := by omega
      by_cases h3 : j < 3
      case neg =>
        have h3' : ¬ (j : Int) < 3 := by omega
        go_wp2_with fail
        go_meet
        obtain ⟨l, h⟩ := HR.out
        exact ⟨l, rfl, h⟩
      have h3' : (j : Int) < 3 := by omega
      -- PART SIX: the drawn region 14
      obtain ⟨ab, aoff, x0, rfl, cA0, hx1, hx2⟩ := HAT.out j h1
      have hab : ab < L := by have h := World.block_lt_of_cell? w _ cA0; rw [hL] at h; exact h
      have cA : wr.cell? ⟨ab, aoff + j, none⟩ = some (.int .i64 x0) := cell_later (by rw [hL]; exact HBL.out) cA0
      obtain ⟨bad, hbo, b0, cB0⟩ : ∃ bad, bo = some bad ∧ ∃ b0 : UInt8, w.cell? (bad.add j) = some (.int .u8 b0.toNat) := by
        obtain ⟨bo', c', e, hcc, hnn, hcl⟩ := HBY.out
        injection e with e1 e2 e3
        subst e1
        cases bo with
        | none => have := hnn rfl; rw [B_length, HNB.out] at hcc; omega
        | some ad => exact ⟨ad, rfl, _, hcl ad rfl j _ (byte_at8 byl j (by rw [HNB.out]; exact h2))⟩
      subst hbo
      have hbb : bad.block < L := by have h := World.block_lt_of_cell? w _ cB0; rw [add_block8, hL] at h; exact h
      have cB : wr.cell? (bad.add j) = some (.int .u8 b0.toNat) := cell_later (by rw [hL]; exact HBL.out) cB0
      have hy255 : (b0.toNat : Int) ≤ 255 := by have := b0.toNat_lt; omega
      have hg13L : L < g13 := by have := HX13.out.2.2; omega
      have hLN : l.length = N := by have := HOL.out.1; rwa [B_length] at this
      have HLN := hid hLN
      have HCA := hid cA
      have HCB := hid cB
      clear cA0 cB0 hLN cA cB
      go_upto_region 14 with fail
      refine wp_region_held_drew (S := fun w' => w'.cell? ⟨ab, aoff + j, none⟩ = some (.int .i64 x0) ∧ w'.cell? (bad.add j) = some (.int .u8 b0.toNat)) (by kernel_rfl) (⟨HCA.out, HCB.out⟩) (fun hHeld => ?_)
      refine wpAnyH_take (i := 0) (v := .slice (some ⟨g13, 0, none⟩) N c13) rfl (by kernel_rfl) (by kernel_rfl) (by kernel_rfl) (fun _ _ _ h => h) (Or.inl ⟨by rfl, by intro w hSw; go_simp⟩) hHeld ?_
      try simp only [Act.put, List.setIfInBounds_toArray, List.set_cons_zero, List.set_cons_succ, List.getElem_toArray, List.getElem_cons_zero, List.getElem_cons_succ]
      refine wpAnyH_take (i := 1) (v := .slice (some ⟨ab, aoff, none⟩) atl atc) rfl (by kernel_rfl) (by kernel_rfl) (by kernel_rfl) (fun _ _ _ h => h) (Or.inl ⟨by rfl, by intro w hSw; go_simp⟩) hHeld ?_
      try simp only [Act.put, List.setIfInBounds_toArray, List.set_cons_zero, List.set_cons_succ, List.getElem_toArray, List.getElem_cons_zero, List.getElem_cons_succ]
      refine wpAnyH_take (i := 2) (v := .int .i64 (j : Int)) rfl (by kernel_rfl) (by kernel_rfl) (by kernel_rfl) (fun _ _ _ h => h) (Or.inl ⟨by rfl, by intro w hSw; go_simp⟩) hHeld ?_
      try simp only [Act.put, List.setIfInBounds_toArray, List.set_cons_zero, List.set_cons_succ, List.getElem_toArray, List.getElem_cons_zero, List.getElem_cons_succ]
      refine wpAnyH_take (i := 3) (v := .pointer (some ⟨ab, aoff + j, none⟩)) rfl (by kernel_rfl) (by kernel_rfl) (by kernel_rfl) (fun _ _ _ h => h) (Or.inl ⟨by rfl, by intro w hSw; go_simp⟩) hHeld ?_
      try simp only [Act.put, List.setIfInBounds_toArray, List.set_cons_zero, List.set_cons_succ, List.getElem_toArray, List.getElem_cons_zero, List.getElem_cons_succ]
      refine wpAnyH_take (i := 4) (v := .int .i64 x0) rfl (by kernel_rfl) (by kernel_rfl) (by kernel_rfl) (fun _ _ _ h => h) (Or.inl ⟨by rfl, by intro w hSw; have q := hSw.1; go_simp⟩) hHeld ?_
      try simp only [Act.put, List.setIfInBounds_toArray, List.set_cons_zero, List.set_cons_succ, List.getElem_toArray, List.getElem_cons_zero, List.getElem_cons_succ]
      refine wpAnyH_take (i := 5) (v := .slice (some ⟨g13, 0, none⟩) N c13) rfl (by kernel_rfl) (by kernel_rfl) (by kernel_rfl) (fun _ _ _ h => h) (Or.inl ⟨by rfl, by intro w hSw; go_simp⟩) hHeld ?_
      try simp only [Act.put, List.setIfInBounds_toArray, List.set_cons_zero, List.set_cons_succ, List.getElem_toArray, List.getElem_cons_zero, List.getElem_cons_succ]
      refine wpAnyH_take (i := 6) (v := .int .i64 (N : Int)) rfl (by kernel_rfl) (by kernel_rfl) (by kernel_rfl) (fun _ _ _ h => h) (Or.inl ⟨by rfl, by intro w hSw; go_simp⟩) hHeld ?_
      try simp only [Act.put, List.setIfInBounds_toArray, List.set_cons_zero, List.set_cons_succ, List.getElem_toArray, List.getElem_cons_zero, List.getElem_cons_succ]
      refine wpAnyH_take (i := 10) (v := .slice (some bad) nb bc) rfl (by kernel_rfl) (by kernel_rfl) (by kernel_rfl) (fun _ _ _ h => h) (Or.inl ⟨by rfl, by intro w hSw; go_simp⟩) hHeld ?_
      try simp only [Act.put, List.setIfInBounds_toArray, List.set_cons_zero, List.set_cons_succ, List.getElem_toArray, List.getElem_cons_zero, List.getElem_cons_succ]
      refine wpAnyH_take (i := 11) (v := .int .i64 (j : Int)) rfl (by kernel_rfl) (by kernel_rfl) (by kernel_rfl) (fun _ _ _ h => h) (Or.inl ⟨by rfl, by intro w hSw; go_simp⟩) hHeld ?_
      try simp only [Act.put, List.setIfInBounds_toArray, List.set_cons_zero, List.set_cons_succ, List.getElem_toArray, List.getElem_cons_zero, List.getElem_cons_succ]
      refine wpAnyH_take (i := 12) (v := .pointer (some (bad.add j))) rfl (by kernel_rfl) (by kernel_rfl) (by kernel_rfl) (fun _ _ _ h => h) (Or.inl ⟨by rfl, by intro w hSw; go_simp⟩) hHeld ?_
      try simp only [Act.put, List.setIfInBounds_toArray, List.set_cons_zero, List.set_cons_succ, List.getElem_toArray, List.getElem_cons_zero, List.getElem_cons_succ]
      refine wpAnyH_take (i := 13) (v := .int .u8 b0.toNat) rfl (by kernel_rfl) (by kernel_rfl) (by kernel_rfl) (fun _ _ _ h => h) (Or.inl ⟨by rfl, by intro w hSw; have q := hSw.2; go_simp⟩) hHeld ?_
      try simp only [Act.put, List.setIfInBounds_toArray, List.set_cons_zero, List.set_cons_succ, List.getElem_toArray, List.getElem_cons_zero, List.getElem_cons_succ]
      refine wpAnyH_ready (rs := [7]) (by kernel_rfl) (by simp) ?_
      refine AllReadyH.cons rfl (fun K hK => ?_) AllReadyH.nil
      go_simp
      refine (within_nat x0 (N : Int) (by omega) (by omega) _).mono ?_
      rintro _ wz ⟨p, hpN, rfl, hwz⟩
      subst hwz
      refine hK.out _ _ (hHeld) (fun hHeld => ?_)
      clear hK K
      try simp only [Act.put, List.setIfInBounds_toArray, List.set_cons_zero, List.set_cons_succ, List.getElem_toArray, List.getElem_cons_zero, List.getElem_cons_succ]
      have hp2 : p < N := by omega
      obtain ⟨x, hx⟩ : ∃ x, l.getD p 0 = x := ⟨_, rfl⟩
      have HCC := hid (show wr.drew.cell? ⟨g13, p, none⟩ = some (.int .u8 x.toNat) by rw [← hx]; exact HOL.out.cell (byte_at8 l p (by rw [HLN.out]; exact hp2)))
      have hx255 : (x.toNat : Int) ≤ 255 := by have := x.toNat_lt; omega
      have HFR := hid (show wr.drew.frozen? ⟨g13, p, none⟩ = false from HOL.out.frozen p)
      clear hx
      refine wpAnyH_take (i := 8) (v := .pointer (some ⟨g13, p, none⟩)) rfl (by kernel_rfl) (by kernel_rfl) (by kernel_rfl) (fun _ _ _ h => h) (Or.inl ⟨by rfl, by intro w hSw; go_simp⟩) hHeld ?_
      try simp only [Act.put, List.setIfInBounds_toArray, List.set_cons_zero, List.set_cons_succ, List.getElem_toArray, List.getElem_cons_zero, List.getElem_cons_succ]
      refine wpAnyH_ready (rs := [9]) (by kernel_rfl) (by simp) ?_
      refine AllReadyH.cons rfl (fun K hK => ?_) AllReadyH.nil
      have q := HCC.out
      go_simp
      clear q
      refine hK.out _ _ (hHeld) (fun hHeld => ?_)
      clear hK K
      try simp only [Act.put, List.setIfInBounds_toArray, List.set_cons_zero, List.set_cons_succ, List.getElem_toArray, List.getElem_cons_zero, List.getElem_cons_succ]
      refine wpAnyH_take (i := 14) (v := .int .u8 (((x.toNat : Int) + (b0.toNat : Int)) % 256)) rfl (by kernel_rfl) (by kernel_rfl) (by kernel_rfl) (fun _ _ _ h => h) (Or.inl ⟨by rfl, by intro w hSw; go_simp; first | rfl | go_num | (rw [IntKind.wrap_u8])⟩) hHeld ?_
      try simp only [Act.put, List.setIfInBounds_toArray, List.set_cons_zero, List.set_cons_succ, List.getElem_toArray, List.getElem_cons_zero, List.getElem_cons_succ]
      refine wpAnyH_ready (rs := [15]) (by kernel_rfl) (by simp) ?_
      refine AllReadyH.cons rfl (fun K hK => ?_) AllReadyH.nil
      go_simp
      refine hK.out _ _ (hHeld) (fun hHeld => ?_)
      clear hK K
      try simp only [Act.put, List.setIfInBounds_toArray, List.set_cons_zero, List.set_cons_succ, List.getElem_toArray, List.getElem_cons_zero, List.getElem_cons_succ]
      refine wpAnyH_ready (rs := [16]) (by kernel_rfl) (by simp) ?_
      refine AllReadyH.cons rfl (fun K hK => ?_) AllReadyH.nil
      have q := HFR.out
      have q2 := HCC.out
      go_simp
      clear q q2
      refine hK.out _ _ (⟨by show (wr.setCell _ _).cell? _ = _; rw [World.cell?_setCell_other _ _ _ _ (by intro h; have h := congrArg Addr.block h; have h : g13 = ab := h; omega)]; exact hHeld.1, by show (wr.setCell _ _).cell? _ = _; rw [World.cell?_setCell_other _ _ _ _ (by intro h; have h := congrArg Addr.block h; rw [add_block8] at h; have h : g13 = bad.block := h; omega)]; exact hHeld.2⟩) (fun hHeld => ?_)
      clear hK K
      try simp only [Act.put, List.setIfInBounds_toArray, List.set_cons_zero, List.set_cons_succ, List.getElem_toArray, List.getElem_cons_zero, List.getElem_cons_succ]
      refine wpAnyH_done (by kernel_rfl) ?_ _
      go_wp2_with fail
      go_roundw
      case rel =>
        refine ⟨j + 1, _, by omega, by go_num, Owns.setByte8 (w := wr.drew) HOL.out p _ (by omega) (by omega), ?_, ?_, HBL.out.drew.setCell (show L ≤ (⟨g13, p, none⟩ : Addr).block from by show L ≤ g13; omega) _⟩
        · exact (show DW wr.drew 29 L d v from HWL.out.kept rfl).beside (by omega) p _
        · exact (show Owns wr.drew 5 g8 c8 N (B (dB gd o7)) from HOB.out).kept (heap_setCell_other _ _ _ _ (by show g8 ≠ g13; have := HX13.out.2.2; omega))
      case measure => simp [intOf]; omega
  case rest =>
  -- PART SEVEN
  obtain ⟨l0, rfl, hlO, hlW, hlB, hlb⟩ := hcut
  have HOL := hid hlO
  have HWL := hid hlW
  have HOB := hid hlB
  have HBL := hid hlb
  clear hlO hlW hlB hlb HC13 HW13 HO13 Hb13 HX13
  go_upto_if 98 with fail
  go_cut [19] (fun s w' => ∃ (M : Nat) (l : List UInt8), M ≤ N ∧ s = .slice (some ⟨g13, 0, none⟩) M c13 ∧ Owns w' 5 g13 c13 M (B l) ∧ DW w' 29 L d v ∧ Owns w' 5 g8 c8 N (B (dB gd o7)) ∧ Below L w w')
  case first =>
    obtain ⟨q, hq⟩ : ∃ q, (ct.tmod 2 == 1) = q := ⟨_, rfl⟩
    rw [hq]
    clear hq
    cases q
    · -- MEET2
      go_wp2_with fail
      go_meet
      exact ⟨N, _, Nat.le_refl _, rfl, HOL.out, HWL.out, HOB.out, HBL.out⟩
    · -- MEET0
      go_wp2_with fail
      -- MEET3
      refine (within_nat _ _ (by omega) (by omega) _).mono ?_
      rintro _ wz ⟨m, hm, rfl, hwz⟩
      subst hwz
      have hmN : m ≤ N := by omega
      have hmc : (m : Int) ≤ (c13 : Int) := by have := HOL.out.2.1; omega
      go_wp2_with fail
      -- MEET1
      go_meet
      exact ⟨m, _, hmN, by simp, HOL.out.low8 m hmN, HWL.out, HOB.out, HBL.out⟩
  case rest =>
  -- PART EIGHT
  clear HOL HWL HOB HBL
  obtain ⟨M, l, hMN, rfl, hlO, hlW, hlB, hlb⟩ := hcut
  have HOLd := hid (show Owns wc.drew 5 g13 c13 M (B l) from hlO)
  have HOBd := hid (show Owns wc.drew 5 g8 c8 N (B (dB gd o7)) from hlB)
  have HS17 := hid (show DW wc.drew 29 L d v ∧ Below L w wc.drew from ⟨hlW.kept rfl, hlb.drew⟩)
  have HLM := hid (show l.length = M by have := hlO.1; rwa [B_length] at this)
  obtain ⟨N2, hN2⟩ : ∃ N2, 84 + partsN o = N2 := ⟨_, rfl⟩
  have HN2 := hid hN2
  have HD2 := hid (show (dB d o).length ≤ 8134 from dB_size HD.out HF.out)
  clear hN2 hlO hlW hlB hlb
  go_upto_region 17 with fail
  go_cut [21] (fun s w' => ∃ gr, s = .slice (some ⟨gr, 0, none⟩) 4 4 ∧ Rows4 w' gr ∧ Below L w w')
  case first =>
    refine wp_region_held_drew (S := fun w' => DW w' 29 L d v ∧ Below L w w') (by kernel_rfl) (HS17.out) (fun hHeld => ?_)
    generalize wc.drew = wd at *
    refine wpAnyH_take (i := 0) (v := .slice (some ⟨g13, 0, none⟩) M c13) rfl (by kernel_rfl) (by kernel_rfl) (by kernel_rfl) (fun _ _ _ h => h) (Or.inl ⟨by rfl, by intro w hSw; go_simp⟩) hHeld ?_
    try simp only [Act.put, List.setIfInBounds_toArray, List.set_cons_zero, List.set_cons_succ, List.getElem_toArray, List.getElem_cons_zero, List.getElem_cons_succ]
    refine wpAnyH_take (i := 2) (v := .slice (some ⟨g8, 0, none⟩) N c8) rfl (by kernel_rfl) (by kernel_rfl) (by kernel_rfl) (fun _ _ _ h => h) (Or.inl ⟨by rfl, by intro w hSw; go_simp⟩) hHeld ?_
    try simp only [Act.put, List.setIfInBounds_toArray, List.set_cons_zero, List.set_cons_succ, List.getElem_toArray, List.getElem_cons_zero, List.getElem_cons_succ]
    refine wpAnyH_take (i := 4) (v := .slice ro nr rc) rfl (by kernel_rfl) (by kernel_rfl) (by kernel_rfl) (fun _ _ _ h => h) (Or.inl ⟨by rfl, by intro w hSw; go_simp⟩) hHeld ?_
    try simp only [Act.put, List.setIfInBounds_toArray, List.set_cons_zero, List.set_cons_succ, List.getElem_toArray, List.getElem_cons_zero, List.getElem_cons_succ]
    refine wpAnyH_take (i := 6) (v := .slice ro nr rc) rfl (by kernel_rfl) (by kernel_rfl) (by kernel_rfl) (fun _ _ _ h => h) (Or.inl ⟨by rfl, by intro w hSw; go_simp⟩) hHeld ?_
    try simp only [Act.put, List.setIfInBounds_toArray, List.set_cons_zero, List.set_cons_succ, List.getElem_toArray, List.getElem_cons_zero, List.getElem_cons_succ]
    refine wpAnyH_take (i := 7) (v := _) rfl (by kernel_rfl) (by kernel_rfl) (by kernel_rfl) (fun _ _ _ h => h) (yieldsIf_load_mid (by rfl) _ _ rfl _ _ rfl cs _ (fun w hSw => (HCW.out _ _ hSw.1)) Try.underlying29 rfl (by rw [HCL.out]; exact HI.out)) hHeld ?_
    try simp only [Act.put, List.setIfInBounds_toArray, List.set_cons_zero, List.set_cons_succ, List.getElem_toArray, List.getElem_cons_zero, List.getElem_cons_succ]
    have hLd : L < wd.heap.size := hHeld.1.blk.lt
    have hgd13 : g13 < wd.heap.size := HOLd.out.lt
    refine wpAnyH_ready (rs := [1]) (by kernel_rfl) (by simp) ?_
    refine AllReadyH.cons rfl (fun K hK => ?_) AllReadyH.nil
    go_simp
    refine hK.out _ _ (⟨hHeld.1.later ((Below.refl _ _).alloc (Nat.le_refl _) _), hHeld.2.alloc (by omega) _⟩) (fun hHeld => ?_)
    clear hK K
    try simp only [Act.put, List.setIfInBounds_toArray, List.set_cons_zero, List.set_cons_succ, List.getElem_toArray, List.getElem_cons_zero, List.getElem_cons_succ]
    have HE1 := hid (Owns.empty wd 5)
    have HOL1 := hid (HOLd.out.alloc (.cells #[] 5))
    have HOB1 := hid (HOBd.out.alloc (.cells #[] 5))
    refine wpAnyH_ready (rs := [3]) (by kernel_rfl) (by simp) ?_
    refine AllReadyH.cons rfl (fun K hK => ?_) AllReadyH.nil
    refine Eq.mpr (if_pos (by rfl)) ?_
    refine wp_append_src8 _ _ _ 31 31 rfl 5 i0 (.int .u8 0) Try.underlying31 hi hz0 hz1 hz2 rfl wd.heap.size 0 0 [] rfl HE1.out _ N (B (dB gd o7)) rfl (Src.ofBytes _ Try.underlying31 HNL.out HOB1.out.reads) (by omega) ?_
    intro g3 c3 w3 hG3
    rw [Nat.zero_add N, List.nil_append] at hG3
    rw [Nat.zero_add N]
    have hg3 : wd.heap.size ≤ g3 := by
      rcases hG3.blk with ⟨h, _⟩ | h
      · omega
      · have : (wd.alloc (.cells #[] 5)).heap.size = wd.heap.size + 1 := by simp
        omega
    refine hK.out _ _ (⟨hHeld.1.grown hG3.grown (by intro e; injection e; omega), hG3.below hHeld.2 (by omega)⟩) (fun hHeld => ?_)
    clear hK K
    try simp only [Act.put, List.setIfInBounds_toArray, List.set_cons_zero, List.set_cons_succ, List.getElem_toArray, List.getElem_cons_zero, List.getElem_cons_succ]
    have HO3 := hid hG3.own
    have HOL3 := hid (HOL1.out.kept (hG3.grown.block g13 HOL1.out.lt (by intro e; injection e; omega)))
    clear hG3 HE1 HOL1 HOB1 HOLd HOBd
    refine wpAnyH_ready (rs := [5]) (by kernel_rfl) (by simp) ?_
    refine AllReadyH.cons rfl (fun K hK => ?_) AllReadyH.nil
    refine Eq.mpr (if_pos (by rfl)) ?_
    refine wp_append_src8 _ _ _ 31 31 rfl 5 i0 (.int .u8 0) Try.underlying31 hi hz0 hz1 hz2 rfl g3 c3 N (B (dB gd o7)) rfl HO3.out _ nr (B raw) rfl (Src.ofBytes _ Try.underlying31 HNR.out (HRW.out.later (by rw [hL]; exact hHeld.2))) (by omega) ?_
    intro g5 c5 w5 hG5
    refine hK.out _ _ (⟨hHeld.1.grown hG5.grown (by intro e; injection e; omega), hG5.below hHeld.2 (by omega)⟩) (fun hHeld => ?_)
    clear hK K
    try simp only [Act.put, List.setIfInBounds_toArray, List.set_cons_zero, List.set_cons_succ, List.getElem_toArray, List.getElem_cons_zero, List.getElem_cons_succ]
    have HO5 := hid (show Reads w5 (.slice (some ⟨g5, 0, none⟩) (N + nr) c5) (B (dB gd o7 ++ raw)) by rw [B_append]; exact hG5.own.reads)
    have HOL5 := hid (HOL3.out.kept (hG5.grown.block g13 HOL3.out.lt (by intro e; injection e; omega))).reads
    clear hG5 HO3 HOL3
    refine wpAnyH_ready (rs := [8]) (by kernel_rfl) (by simp) ?_
    refine AllReadyH.cons rfl (fun K hK => ?_) AllReadyH.nil
    go_simp
    refine (rbytes_at d HD.out v cs HCS.out o _ (HV.out.later (by rw [hL]; exact hHeld.2)).1 HF.out).mono ?_
    rintro _ w8 ⟨g9, c9, rfl, hg9, hO9, hb9⟩
    rw [HN2.out] at hO9 ⊢
    refine hK.out _ _ (⟨hHeld.1.later hb9, hHeld.2.trans (hb9.mono (by have := hHeld.1.blk.lt; omega))⟩) (fun hHeld => ?_)
    clear hK K
    try simp only [Act.put, List.setIfInBounds_toArray, List.set_cons_zero, List.set_cons_succ, List.getElem_toArray, List.getElem_cons_zero, List.getElem_cons_succ]
    have HO9 := hid hO9.reads
    have HO8 := hid (HO5.out.later hb9)
    have HOL8 := hid (HOL5.out.later hb9)
    have HRW8 := hid (HRW.out.later (w1 := w8) (by rw [hL]; exact hHeld.2))
    clear hg9 hO9 hb9 HO5 HOL5
    refine wpAnyH_ready (rs := [9]) (by kernel_rfl) (by simp) ?_
    refine AllReadyH.cons rfl (fun K hK => ?_) AllReadyH.nil
    go_simp
    refine hK.out _ _ (⟨hHeld.1.later ((Below.refl _ _).alloc (Nat.le_refl _) _), hHeld.2.alloc (by have := hHeld.1.blk.lt; omega) _⟩) (fun hHeld => ?_)
    clear hK K
    try simp only [Act.put, List.setIfInBounds_toArray, List.set_cons_zero, List.set_cons_succ, List.getElem_toArray, List.getElem_cons_zero, List.getElem_cons_succ]
    have HR4 := hid (rows4_new w8 _ _ _ _ l (dB gd o7 ++ raw) raw (dB d o) HOL8.out HO8.out HRW8.out HO9.out (by rw [HLM.out]; omega) (by rw [List.length_append, HNL.out, HNR.out]; omega) (by rw [HNR.out]; omega) (by have := HD2.out; omega))
    refine wpAnyH_ready (rs := [10]) (by kernel_rfl) (by simp) ?_
    refine AllReadyH.cons rfl (fun K hK => ?_) AllReadyH.nil
    go_simp
    refine hK.out _ _ (hHeld) (fun hHeld => ?_)
    clear hK K
    try simp only [Act.put, List.setIfInBounds_toArray, List.set_cons_zero, List.set_cons_succ, List.getElem_toArray, List.getElem_cons_zero, List.getElem_cons_succ]
    refine wpAnyH_done (by kernel_rfl) ?_ _
    go_wp2_with fail
    go_meet
    exact ⟨_, rfl, HR4.out, hHeld.2⟩
  case rest =>
  -- PART NINE
  obtain ⟨gr, rfl, hr4, hb4⟩ := hcut
  have HR4 := hid hr4
  have HB4 := hid hb4
  clear hr4 hb4 HOLd HOBd HS17 HLM HN2 HD2
  go_wp2_with fail
  go_loopw [22] (fun i wr => ∃ j : Nat, j ≤ 4 ∧ i = .int .i64 j ∧ Rows4 wr gr ∧ Below L w wr) (fun i _ => 4 - (intOf i).toNat)
  case atStart => exact ⟨0, by omega, rfl, HR4.out, HB4.out⟩
  case round =>
    clear HR4 HB4
    obtain ⟨j, hj, rfl, hR, hB⟩ := hrel
    have HR := hid hR
    have HB := hid hB
    clear hR hB
    by_cases h4 : j < 4
    case neg =>
      have h4' : ¬ (j : Int) < 4 := by omega
      go_wp2_with fail
      go_ret
      exact ⟨rfl, by first | exact HB.out | (rw [hL]; exact HB.out)⟩
    have h4' : (j : Int) < 4 := by omega
    -- PART TEN: region 21
    obtain ⟨vr, l, hc, hrd, hll⟩ := HR.out j h4
    obtain ⟨k, hk⟩ : ∃ k, l.length = k := ⟨_, rfl⟩
    have hk2 : k ≤ 8334 := by omega
    have HK := hid hk
    have HBIG := hid (show l.length ≤ 140737488355328 by omega)
    have Z := hid (show Below wr.heap.size wr (wr.alloc (.cells #[] 5)) from (Below.refl _ _).alloc (Nat.le_refl _) _)
    have HC := hid hc
    have HRD := hid hrd
    have HE := hid (Owns.empty wr 5)
    have HSR := hid (Src.ofBytes (P := Try.prog) (tx := 31) _ Try.underlying31 HK.out (HRD.out.later Z.out))
    have cA : (wr.alloc (.cells #[] 5)).cell? ⟨gr, j, none⟩ = some vr := cell_later Z.out hc
    obtain ⟨x, ox, e, hp⟩ : ∃ x ox e, delP l = (x, ox, e) := by
      rcases delP l with ⟨a, b, c⟩
      exact ⟨a, b, c, rfl⟩
    have HP2 := hid hp
    have HX32 := hid (show x.h.length = 32 by have := (delP_few l).1; rwa [hp] at this)
    have HOX := hid (show ox.length ≤ 40 by have := (delP_few l).2; rwa [hp] at this)
    have HOK := hid (show e = 0 → dB x ox = l ∧ chkS ox = 0 from fun he => by
      have h := dB_delP (b := l) (by rw [hp]; exact he)
      rw [hp] at h
      exact ⟨h.1, h.2.2.1⟩)
    clear hc hrd hll hk hp
    go_wp2_with (at_builtin; go_must (refine wpList_append_src (P := Try.prog) _ rfl _ _ 31 31 rfl 5 i0 (.int .u8 0) Try.underlying31 hi hz0 hz1 hz2 rfl wr.heap.size 0 0 [] (by go_simp) HE.out _ k (B l) rfl HSR.out (by omega) ?_); intro g1 c1 w1 hG1; have HG1 := hid hG1; clear hG1)
    -- CALL1
    have HO1 := hid (show Owns w1 5 g1 c1 k (B l) from by have h := HG1.out.own; rwa [Nat.zero_add, List.nil_append] at h)
    have Hb1 := hid (show Below wr.heap.size wr w1 from HG1.out.below Z.out (Nat.le_refl _))
    clear HG1 HSR HE Z cA
    refine (parse_at l x ox e HP2.out _ _ HO1.out.reads HBIG.out).mono ?_
    rintro _ w2 ⟨v2, xs, hxs, rfl, hH2, hb2⟩
    have Hb2 := hid (show Below wr.heap.size wr w2 from Hb1.out.trans (hb2.mono Hb1.out.size))
    have HH2 := hid hH2
    have HXS2 := hid hxs
    have HXL2 := hid (show xs.length = 40 by rw [← hxs]; exact Dl.len HX32.out)
    have HXO2 := hid (show ∀ x ∈ xs, x.oneCell' = true by rw [← hxs]; exact Dl.one (one4 hH2))
    obtain ⟨X1, hX1⟩ : ∃ X1, w2.heap.size = X1 := ⟨_, rfl⟩
    have HX1 := hid hX1
    clear hxs hH2 hb2 HO1 Hb1
    go_upto_region 22 with (first
      | (show wpList _ _ _ (⟨some 23, Op.alloc _, _, _, _, _⟩ :: _) _ _; go_must (refine wpList_alloc_blk rfl 29 rfl _ HZ.out X1 hX1 ?_); intro w3 hB3 hb3 hs3; have HB3 := hid hB3; have Hb3 := hid hb3; clear hB3 hb3)
      | (show wpList _ _ _ (⟨none, Op.store _ (Operand.tmp 23) (Operand.tmp 129), _, _, _, _⟩ :: _) _ _; go_must (refine wpList_store_list rfl 29 _ _ rfl X1 0 xs rfl rfl (HB3.out.there (by rw [HXL2.out, Dl.len Dl.zero_len]; omega)) (by rw [HXL2.out]; exact HI.out) HXO2.out ?_); intro w4 hw4; have HX4 := hid (show DW w4 29 X1 x v2 ∧ Below X1 w2 w4 by rw [hw4]; exact ⟨by rw [← HXS2.out]; exact (DW.mk Dl.zero_len HB3.out).set_all x HX32.out v2, below_setCells (by omega) _ _ Hb3.out⟩); clear hw4 HB3 Hb3))
    -- PART ELEVEN: region 22
    have HD4 := hid (show DW w4 29 X1 x v2 from HX4.out.1)
    have HH4 := hid (show HasC w4 w1.heap.size v2 ox from HH2.out.later (by rw [HX1.out]; exact HX4.out.2))
    have Hb4 := hid (show Below wr.heap.size wr w4 from Hb2.out.trans (HX4.out.2.mono (by rw [← HX1.out]; exact Hb2.out.size)))
    have cB : w4.cell? ⟨gr, j, none⟩ = some vr := cell_later Hb4.out HC.out
    have HRD4 := hid (HRD.out.later Hb4.out)
    clear HX4 HH2 Hb2 hs3 hX1
    go_wp2_with fail
    -- CALL2
    refine (rparse_at l x ox e HP2.out _ _ HRD4.out HBIG.out).mono ?_
    rintro _ w5 ⟨v5, ys, hys, rfl, hH5, hb5⟩
    have HD5 := hid (HD4.out.later hb5)
    have HH5x := hid (HH4.out.later hb5)
    have Hb5 := hid (show Below wr.heap.size wr w5 from Hb4.out.trans (hb5.mono Hb4.out.size))
    have HH5 := hid hH5
    have HYS := hid hys
    have HYL := hid (show ys.length = 40 by rw [← hys]; exact Dl.len HX32.out)
    have HYO := hid (show ∀ x ∈ ys, x.oneCell' = true by rw [← hys]; exact Dl.one (one4 hH5))
    obtain ⟨X2, hX2⟩ : ∃ X2, w5.heap.size = X2 := ⟨_, rfl⟩
    have HX2 := hid hX2
    clear hys hH5 hb5 HD4 HH4 Hb4 cB HRD4
    go_upto_region 23 with (first
      | (show wpList _ _ _ (⟨some 25, Op.alloc _, _, _, _, _⟩ :: _) _ _; go_must (refine wpList_alloc_blk rfl 29 rfl _ HZ.out X2 hX2 ?_); intro w6 hB6 hb6 hs6; have HB6 := hid hB6; have Hb6 := hid hb6; clear hB6 hb6)
      | (show wpList _ _ _ (⟨none, Op.store _ (Operand.tmp 25) (Operand.tmp 137), _, _, _, _⟩ :: _) _ _; go_must (refine wpList_store_list rfl 29 _ _ rfl X2 0 ys rfl rfl (HB6.out.there (by rw [HYL.out, Dl.len Dl.zero_len]; omega)) (by rw [HYL.out]; exact HI.out) HYO.out ?_); intro w7 hw7; have HX7 := hid (show DW w7 29 X2 x v5 ∧ Below X2 w5 w7 by rw [hw7]; exact ⟨by rw [← HYS.out]; exact (DW.mk Dl.zero_len HB6.out).set_all x HX32.out v5, below_setCells (by omega) _ _ Hb6.out⟩); clear hw7 HB6 Hb6))
    -- PART TWELVE: region 23
    have HD7 := hid (show DW w7 29 X1 x v2 from HD5.out.later (by rw [HX2.out]; exact HX7.out.2))
    have HE7 := hid HX7.out.1
    have HH7x := hid (show HasC w7 w1.heap.size v2 ox from HH5x.out.later (by rw [HX2.out]; exact HX7.out.2))
    have HH7 := hid (show HasC w7 w4.heap.size v5 ox from HH5.out.later (by rw [HX2.out]; exact HX7.out.2))
    have Hb7 := hid (show Below wr.heap.size wr w7 from Hb5.out.trans (HX7.out.2.mono (by rw [← HX2.out]; exact Hb5.out.size)))
    clear HX7 HD5 HH5x HH5 Hb5 hs6 hX2
    obtain ⟨q, eo, hq⟩ : ∃ q eo, opP l = (q, eo) := by
      rcases opP l with ⟨a, b⟩
      exact ⟨a, b, rfl⟩
    have HQ := hid hq
    have HQL := hid (show q.length ≤ 40 by have := (opP_size l).2; rwa [hq] at this)
    have Z7 := hid (show Below wr.heap.size wr (w7.alloc (.cells #[] 5)) from Hb7.out.alloc Hb7.out.size _)
    have HE := hid (Owns.empty w7 5)
    have HSR := hid (Src.ofBytes (P := Try.prog) (tx := 31) _ Try.underlying31 HK.out (HRD.out.later Z7.out))
    have cC : (w7.alloc (.cells #[] 5)).cell? ⟨gr, j, none⟩ = some vr := cell_later Z7.out HC.out
    clear hq
    go_wp2_with (at_builtin; go_must (refine wpList_append_src (P := Try.prog) _ rfl _ _ 31 31 rfl 5 i0 (.int .u8 0) Try.underlying31 hi hz0 hz1 hz2 rfl w7.heap.size 0 0 [] (by go_simp) HE.out _ k (B l) rfl HSR.out (by omega) ?_); intro g3 c3 z8 hG3; have HG3 := hid hG3; clear hG3)
    -- CALL3
    have HO8 := hid (show Owns z8 5 g3 c3 k (B l) from by have h := HG3.out.own; rwa [Nat.zero_add, List.nil_append] at h)
    have Hb78 := hid (show Below w7.heap.size w7 z8 from HG3.out.below ((Below.refl _ _).alloc (Nat.le_refl _) _) (Nat.le_refl _))
    have HD8 := hid (HD7.out.later Hb78.out)
    have HE8 := hid (HE7.out.later Hb78.out)
    have HH8x := hid (HH7x.out.later Hb78.out)
    have HH8 := hid (HH7.out.later Hb78.out)
    have Hb8 := hid (show Below wr.heap.size wr z8 from Hb7.out.trans (Hb78.out.mono Hb7.out.size))
    clear HG3 HSR HE Z7 cC HD7 HE7 HH7x HH7 Hb7 Hb78
    refine (opparse_at l q eo HQ.out _ _ HO8.out.reads HBIG.out).mono ?_
    rintro _ z9 ⟨v9, rfl, hH9, hb9⟩
    have HD9 := hid (HD8.out.later hb9)
    have HE9 := hid (HE8.out.later hb9)
    have HH9x := hid (HH8x.out.later hb9)
    have HH9y := hid (HH8.out.later hb9)
    have Hb9 := hid (show Below wr.heap.size wr z9 from Hb8.out.trans (hb9.mono Hb8.out.size))
    have HH9 := hid hH9
    have HRD9 := hid (HRD.out.later Hb9.out)
    have cD : z9.cell? ⟨gr, j, none⟩ = some vr := cell_later Hb9.out HC.out
    clear hH9 hb9 HD8 HE8 HH8x HH8 Hb8 HO8
    go_wp2_with fail
    -- CALL4
    refine (ropparse_at l q eo HQ.out _ _ HRD9.out HBIG.out).mono ?_
    rintro _ za ⟨va, rfl, hHa, hba⟩
    have HDa := hid (HD9.out.later hba)
    have HEa := hid (HE9.out.later hba)
    have HHax := hid (HH9x.out.later hba)
    have HHay := hid (HH9y.out.later hba)
    have HHaz := hid (HH9.out.later hba)
    have Hba := hid (show Below wr.heap.size wr za from Hb9.out.trans (hba.mono Hb9.out.size))
    have HHa := hid hHa
    have HXWa := hid (show za.rangeAt X1 0 xs by rw [← HXS2.out]; exact HDa.out.whole)
    have HYWa := hid (show za.rangeAt X2 0 ys by rw [← HYS.out]; exact HEa.out.whole)
    clear hHa hba HD9 HE9 HH9x HH9y HH9 HRD9 cD Hb9
    go_wp2_with (first
      | (show wpList _ _ _ (⟨some 161, Op.load _ _, _, _, _, _⟩ :: _) _ _; go_must (refine wpList_load_asked (by first | rfl | go_simp) 29 _ rfl X1 0 rfl xs _ HXWa.out Try.underlying29 rfl (by rw [HXL2.out]; exact HI.out) ?_))
      | (show wpList _ _ _ (⟨some 162, Op.load _ _, _, _, _, _⟩ :: _) _ _; go_must (refine wpList_load_asked (by first | rfl | go_simp) 29 _ rfl X2 0 rfl ys _ HYWa.out Try.underlying29 rfl (by rw [HYL.out]; exact HI.out) ?_)))
    -- CALL5
    refine (same_at x ox HX32.out (by have := HOX.out; omega) v2 v5 xs ys HXS2.out HYS.out _ HHax.out.reads HHay.out.reads).mono ?_
    rintro _ zb ⟨rfl, hbb⟩
    have HDb := hid (HDa.out.later hbb)
    have HHbx := hid (HHax.out.later hbb)
    have HHbz := hid (HHaz.out.later hbb)
    have HHb := hid (HHa.out.later hbb)
    have Hbb := hid (show Below wr.heap.size wr zb from Hba.out.trans (hbb.mono Hba.out.size))
    clear hbb HDa HEa HHax HHay HHaz HHa Hba HXWa HYWa HYS HYL HYO HX2
    go_wp2_with fail
    -- CALL6
    refine (refsame_at q HQL.out v9 va _ HHbz.out.reads HHb.out.reads).mono ?_
    rintro _ zc ⟨rfl, hbc⟩
    have HDc := hid (HDb.out.later hbc)
    have HHcx := hid (HHbx.out.later hbc)
    have Hbc := hid (show Below wr.heap.size wr zc from Hbb.out.trans (hbc.mono Hbb.out.size))
    clear hbc HDb HHbx HHbz HHb Hbb
    go_upto_region 27 with fail
    -- PART THIRTEEN
    have HRCd := hid (show RC zc.drew v2 ox from HHcx.out.reads)
    have Hbd := hid (show Below wr.heap.size wr zc.drew from Hbc.out.drew)
    have HS27 := hid (show DW zc.drew 29 X1 x v2 ∧ zc.drew.cell? ⟨gr, j, none⟩ = some vr ∧ Reads zc.drew vr (B l) ∧ Below wr.heap.size wr zc.drew from ⟨HDc.out.kept rfl, cell_later Hbd.out HC.out, HRD.out.later Hbd.out, Hbd.out⟩)
    have HXW := hid (show ∀ wx, DW wx 29 X1 x v2 → wx.rangeAt X1 0 xs from fun wx h => by rw [← HXS2.out]; exact h.whole)
    clear HDc HHcx Hbc
    go_cut [189] (fun s w' => s = .bool false ∧ Below wr.heap.size wr w')
    case first =>
      by_cases he : e = 0
      case pos =>
        subst he
        obtain ⟨hdb, hch⟩ := HOK.out rfl
        have HDB := hid hdb
        have HFW := hid (chk_few hch HOX.out)
        clear hdb hch
        refine wp_region_held_drew (S := fun w' => DW w' 29 X1 x v2 ∧ w'.cell? ⟨gr, j, none⟩ = some vr ∧ Reads w' vr (B l) ∧ Below wr.heap.size wr w') (by kernel_rfl) (HS27.out) (fun hHeld => ?_)
        generalize zc.drew = zd at *
        refine wpAnyH_take (i := 0) (v := .int .i64 0) rfl (by kernel_rfl) (by kernel_rfl) (by kernel_rfl) (fun _ _ _ h => h) (Or.inl ⟨by rfl, by intro w hSw; go_simp⟩) hHeld ?_
        try simp only [Act.put, List.setIfInBounds_toArray, List.set_cons_zero, List.set_cons_succ, List.getElem_toArray, List.getElem_cons_zero, List.getElem_cons_succ]
        refine wpAnyH_take (i := 1) (v := .bool true) rfl (by kernel_rfl) (by kernel_rfl) (by kernel_rfl) (fun _ _ _ h => h) (Or.inl ⟨by rfl, by intro w hSw; go_simp⟩) hHeld ?_
        try simp only [Act.put, List.setIfInBounds_toArray, List.set_cons_zero, List.set_cons_succ, List.getElem_toArray, List.getElem_cons_zero, List.getElem_cons_succ]
        refine wpAnyH_take (i := 2) (v := .bool true) rfl (by kernel_rfl) (by kernel_rfl) (by kernel_rfl) (fun _ _ _ h => h) (Or.inl ⟨by rfl, by intro w hSw; go_simp⟩) hHeld ?_
        try simp only [Act.put, List.setIfInBounds_toArray, List.set_cons_zero, List.set_cons_succ, List.getElem_toArray, List.getElem_cons_zero, List.getElem_cons_succ]
        refine wpAnyH_take (i := 3) (v := _) rfl (by kernel_rfl) (by kernel_rfl) (by kernel_rfl) (fun _ _ _ h => h) (yieldsIf_load_mid (by rfl) _ _ rfl _ _ rfl xs _ (fun w hSw => (HXW.out _ hSw.1)) Try.underlying29 rfl (by rw [HXL2.out]; exact HI.out)) hHeld ?_
        try simp only [Act.put, List.setIfInBounds_toArray, List.set_cons_zero, List.set_cons_succ, List.getElem_toArray, List.getElem_cons_zero, List.getElem_cons_succ]
        refine wpAnyH_take (i := 6) (v := .slice (some ⟨gr, 0, none⟩) 4 4) rfl (by kernel_rfl) (by kernel_rfl) (by kernel_rfl) (fun _ _ _ h => h) (Or.inl ⟨by rfl, by intro w hSw; go_simp⟩) hHeld ?_
        try simp only [Act.put, List.setIfInBounds_toArray, List.set_cons_zero, List.set_cons_succ, List.getElem_toArray, List.getElem_cons_zero, List.getElem_cons_succ]
        refine wpAnyH_take (i := 7) (v := .int .i64 (j : Int)) rfl (by kernel_rfl) (by kernel_rfl) (by kernel_rfl) (fun _ _ _ h => h) (Or.inl ⟨by rfl, by intro w hSw; go_simp⟩) hHeld ?_
        try simp only [Act.put, List.setIfInBounds_toArray, List.set_cons_zero, List.set_cons_succ, List.getElem_toArray, List.getElem_cons_zero, List.getElem_cons_succ]
        refine wpAnyH_take (i := 8) (v := .pointer (some ⟨gr, j, none⟩)) rfl (by kernel_rfl) (by kernel_rfl) (by kernel_rfl) (fun _ _ _ h => h) (Or.inl ⟨by rfl, by intro w hSw; go_simp⟩) hHeld ?_
        try simp only [Act.put, List.setIfInBounds_toArray, List.set_cons_zero, List.set_cons_succ, List.getElem_toArray, List.getElem_cons_zero, List.getElem_cons_succ]
        refine wpAnyH_take (i := 9) (v := vr) rfl (by kernel_rfl) (by kernel_rfl) (by kernel_rfl) (fun _ _ _ h => h) (Or.inl ⟨by rfl, by intro w hSw; have q := hSw.2.1; go_simp⟩) hHeld ?_
        try simp only [Act.put, List.setIfInBounds_toArray, List.set_cons_zero, List.set_cons_succ, List.getElem_toArray, List.getElem_cons_zero, List.getElem_cons_succ]
        refine wpAnyH_take (i := 10) (v := .string ⟨l.toArray⟩) rfl (by kernel_rfl) (by kernel_rfl) (by kernel_rfl) (fun _ _ _ h => h) (Or.inl ⟨by rfl, by intro w hSw; have q := run_string (P := Try.prog) w 31 9 5 Try.underlying31 Try.underlying5 Try.underlying9 hSw.2.2.1; go_simp⟩) hHeld ?_
        try simp only [Act.put, List.setIfInBounds_toArray, List.set_cons_zero, List.set_cons_succ, List.getElem_toArray, List.getElem_cons_zero, List.getElem_cons_succ]
        refine wpAnyH_ready (rs := [4]) (by kernel_rfl) (by simp) ?_
        refine AllReadyH.cons rfl (fun K hK => ?_) AllReadyH.nil
        go_simp
        refine (bytes_at x HX32.out v2 xs HXS2.out ox _ HRCd.out HFW.out).mono ?_
        rintro _ ze ⟨ge, ce, rfl, hge, hOe, hbe⟩
        rw [HDB.out] at hOe
        refine hK.out _ _ (⟨hHeld.1.later hbe, cell_later hbe hHeld.2.1, hHeld.2.2.1.later hbe, hHeld.2.2.2.trans (hbe.mono hHeld.2.2.2.size)⟩) (fun hHeld => ?_)
        clear hK K
        try simp only [Act.put, List.setIfInBounds_toArray, List.set_cons_zero, List.set_cons_succ, List.getElem_toArray, List.getElem_cons_zero, List.getElem_cons_succ]
        have HOe := hid hOe
        clear hOe hge hbe
        refine wpAnyH_ready (rs := [5]) (by kernel_rfl) (by simp) ?_
        refine AllReadyH.cons rfl (fun K hK => ?_) AllReadyH.nil
        have q := run_string (P := Try.prog) ze 31 9 5 Try.underlying31 Try.underlying5 Try.underlying9 HOe.out.reads
        go_simp
        clear q
        refine hK.out _ _ (hHeld) (fun hHeld => ?_)
        clear hK K
        try simp only [Act.put, List.setIfInBounds_toArray, List.set_cons_zero, List.set_cons_succ, List.getElem_toArray, List.getElem_cons_zero, List.getElem_cons_succ]
        refine wpAnyH_take (i := 11) (v := .bool false) rfl (by kernel_rfl) (by kernel_rfl) (by kernel_rfl) (fun _ _ _ h => h) (Or.inl ⟨by rfl, by intro w hSw; go_simp⟩) hHeld ?_
        try simp only [Act.put, List.setIfInBounds_toArray, List.set_cons_zero, List.set_cons_succ, List.getElem_toArray, List.getElem_cons_zero, List.getElem_cons_succ]
        refine wpAnyH_take (i := 12) (v := .bool false) rfl (by kernel_rfl) (by kernel_rfl) (by kernel_rfl) (fun _ _ _ h => h) (Or.inl ⟨by rfl, by intro w hSw; go_simp⟩) hHeld ?_
        try simp only [Act.put, List.setIfInBounds_toArray, List.set_cons_zero, List.set_cons_succ, List.getElem_toArray, List.getElem_cons_zero, List.getElem_cons_succ]
        refine wpAnyH_done (by kernel_rfl) ?_ _
        go_wp2_with fail
        go_meet
        exact ⟨rfl, hHeld.2.2.2⟩
      case neg =>
        have hne : (e == 0) = false := by simpa using he
        refine wp_region_held_drew (S := fun w' => Below wr.heap.size wr w') (by kernel_rfl) (Hbd.out) (fun hHeld => ?_)
        refine wpAnyH_take (i := 0) (v := .int .i64 e) rfl (by kernel_rfl) (by kernel_rfl) (by kernel_rfl) (fun _ _ _ h => h) (Or.inl ⟨by rfl, by intro w hSw; go_simp⟩) hHeld ?_
        try simp only [Act.put, List.setIfInBounds_toArray, List.set_cons_zero, List.set_cons_succ, List.getElem_toArray, List.getElem_cons_zero, List.getElem_cons_succ]
        refine wpAnyH_take (i := 1) (v := .bool false) rfl (by kernel_rfl) (by kernel_rfl) (by kernel_rfl) (fun _ _ _ h => h) (Or.inl ⟨by rfl, by intro w hSw; go_simp⟩) hHeld ?_
        try simp only [Act.put, List.setIfInBounds_toArray, List.set_cons_zero, List.set_cons_succ, List.getElem_toArray, List.getElem_cons_zero, List.getElem_cons_succ]
        refine wpAnyH_take (i := 2) (v := .bool false) rfl (by kernel_rfl) (by kernel_rfl) (by kernel_rfl) (fun _ _ _ h => h) (Or.inl ⟨by rfl, by intro w hSw; go_simp⟩) hHeld ?_
        try simp only [Act.put, List.setIfInBounds_toArray, List.set_cons_zero, List.set_cons_succ, List.getElem_toArray, List.getElem_cons_zero, List.getElem_cons_succ]
        refine wpAnyH_take (i := 3) (v := undef) rfl (by kernel_rfl) (by kernel_rfl) (by kernel_rfl) (fun _ _ _ h => h) (Or.inr ⟨by rfl, rfl⟩) hHeld ?_
        try simp only [Act.put, List.setIfInBounds_toArray, List.set_cons_zero, List.set_cons_succ, List.getElem_toArray, List.getElem_cons_zero, List.getElem_cons_succ]
        refine wpAnyH_take (i := 4) (v := undef) rfl (by kernel_rfl) (by kernel_rfl) (by kernel_rfl) (fun _ _ _ h => h) (Or.inr ⟨by rfl, rfl⟩) hHeld ?_
        try simp only [Act.put, List.setIfInBounds_toArray, List.set_cons_zero, List.set_cons_succ, List.getElem_toArray, List.getElem_cons_zero, List.getElem_cons_succ]
        refine wpAnyH_take (i := 5) (v := undef) rfl (by kernel_rfl) (by kernel_rfl) (by kernel_rfl) (fun _ _ _ h => h) (Or.inr ⟨by rfl, rfl⟩) hHeld ?_
        try simp only [Act.put, List.setIfInBounds_toArray, List.set_cons_zero, List.set_cons_succ, List.getElem_toArray, List.getElem_cons_zero, List.getElem_cons_succ]
        refine wpAnyH_take (i := 6) (v := undef) rfl (by kernel_rfl) (by kernel_rfl) (by kernel_rfl) (fun _ _ _ h => h) (Or.inr ⟨by rfl, rfl⟩) hHeld ?_
        try simp only [Act.put, List.setIfInBounds_toArray, List.set_cons_zero, List.set_cons_succ, List.getElem_toArray, List.getElem_cons_zero, List.getElem_cons_succ]
        refine wpAnyH_take (i := 7) (v := undef) rfl (by kernel_rfl) (by kernel_rfl) (by kernel_rfl) (fun _ _ _ h => h) (Or.inr ⟨by rfl, rfl⟩) hHeld ?_
        try simp only [Act.put, List.setIfInBounds_toArray, List.set_cons_zero, List.set_cons_succ, List.getElem_toArray, List.getElem_cons_zero, List.getElem_cons_succ]
        refine wpAnyH_take (i := 8) (v := undef) rfl (by kernel_rfl) (by kernel_rfl) (by kernel_rfl) (fun _ _ _ h => h) (Or.inr ⟨by rfl, rfl⟩) hHeld ?_
        try simp only [Act.put, List.setIfInBounds_toArray, List.set_cons_zero, List.set_cons_succ, List.getElem_toArray, List.getElem_cons_zero, List.getElem_cons_succ]
        refine wpAnyH_take (i := 9) (v := undef) rfl (by kernel_rfl) (by kernel_rfl) (by kernel_rfl) (fun _ _ _ h => h) (Or.inr ⟨by rfl, rfl⟩) hHeld ?_
        try simp only [Act.put, List.setIfInBounds_toArray, List.set_cons_zero, List.set_cons_succ, List.getElem_toArray, List.getElem_cons_zero, List.getElem_cons_succ]
        refine wpAnyH_take (i := 10) (v := undef) rfl (by kernel_rfl) (by kernel_rfl) (by kernel_rfl) (fun _ _ _ h => h) (Or.inr ⟨by rfl, rfl⟩) hHeld ?_
        try simp only [Act.put, List.setIfInBounds_toArray, List.set_cons_zero, List.set_cons_succ, List.getElem_toArray, List.getElem_cons_zero, List.getElem_cons_succ]
        refine wpAnyH_take (i := 11) (v := undef) rfl (by kernel_rfl) (by kernel_rfl) (by kernel_rfl) (fun _ _ _ h => h) (Or.inr ⟨by rfl, rfl⟩) hHeld ?_
        try simp only [Act.put, List.setIfInBounds_toArray, List.set_cons_zero, List.set_cons_succ, List.getElem_toArray, List.getElem_cons_zero, List.getElem_cons_succ]
        refine wpAnyH_take (i := 12) (v := .bool false) rfl (by kernel_rfl) (by kernel_rfl) (by kernel_rfl) (fun _ _ _ h => h) (Or.inl ⟨by rfl, by intro w hSw; go_simp⟩) hHeld ?_
        try simp only [Act.put, List.setIfInBounds_toArray, List.set_cons_zero, List.set_cons_succ, List.getElem_toArray, List.getElem_cons_zero, List.getElem_cons_succ]
        refine wpAnyH_done (by kernel_rfl) ?_ _
        go_wp2_with fail
        go_meet
        exact ⟨rfl, hHeld⟩
    case rest =>
    -- PART FOURTEEN
    obtain ⟨rfl, hbz⟩ := hcut
    have Hbz := hid hbz
    clear hbz HRCd Hbd HS27 HXW
    go_wp2_with fail
    go_roundw
    case rel => exact ⟨j + 1, by omega, by go_num, HR.out.later Hbz.out, HB.out.trans (Hbz.out.mono (by have := HB.out.size; omega))⟩
    case measure => simp [intOf]; omega

theorem reads8_row (w : World) (d : Dl) (v : Value) (o : List Cp) (hd : d.h.length = 32) (hv : InOp w v o) (_wf : d.Wf) (a : Int) (_wa : (Lit.int .i64 a).wf = true) (ao : Option Addr) (len cap : Nat) (zs : List Int) (h : IsRow .i64 w ao len cap zs)
    (ato : Option Addr) (atl atc : Nat) (zt : List Int) (ht : IsRow .i64 w ato atl atc zt) (bo : Option Addr) (bl bc : Nat) (zb : List Int) (hb : IsRow .u8 w bo bl bc zb) (ct : Int) (wc : (Lit.int .i64 ct).wf = true)
    (ro : Option Addr) (rl rc : Nat) (zr : List Int) (hr : IsRow .u8 w ro rl rc zr) (_u : World) :
    Calls Try.prog 3 #[.agg (d.cells v).toArray, .int .i64 a, .slice ao len cap, .slice ato atl atc, .slice bo bl bc, .int .i64 ct, .slice ro rl rc] w fun e w' => e = .returned (.bool true) ∧ Below w.heap.size w w' := by
  obtain ⟨byl, h1, h2, h3⟩ := bytes_of_row hb
  obtain ⟨raw, k1, k2, k3⟩ := bytes_of_row hr
  subst h1
  subst k1
  exact reads8_any d v o hd a ao len cap ato atl atc bo bc byl ct (wf_i64 wc) ro rc raw w hv (ns_of_row h) (row_cap h) (len_of_row h) (ns_of_row ht) (len_of_row ht) h3 h2 k3 k2
end Go.Proofs.Ytajkjbhfkeakhaa
