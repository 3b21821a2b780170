/- The contracts of the second say's New, op, Append, Sync, Cut, Stop, Read (chapter 10). -/
import Derived.Test.YtekcoeckgolhcaaDkR
import Derived.Test.YtekcoeckgolhcaaKRead
import Derived.Test.YtekcoeckgolhcaaByteI
import Derived.Test.YtekcoeckgolhcaaAppAny
import Derived.Test.YtekcoeckgolhcaaCutB
import Derived.Test.YtekcoeckgolhcaaTmod
import Derived.WalkLawsBesides
import Derived.BigQuiet
import Derived.Deep.RegionHeld3
import Derived.Deep.Cut
namespace Go.Proofs.Ytekcoeckgolhcaa
open Go.RowKit
set_option linter.unusedSimpArgs false
set_option linter.unusedVariables false

/-- The second say's disk, its slice and its block told. -/
structure RKv (w : World) (x : Nat) (s : Dk) (v : Value) : Prop where
  blk : Blk w 56 x [v, .int .i64 s.kept, .int .i64 s.size, .int .i64 s.left, .bool s.gone]
  has : Has w 5 (x + 1) v s.b.length (B s.b)
section
variable {w w' : World} {x : Nat} {s : Dk} {v : Value}
theorem RK.opened (h : RK w x s) : ∃ ao cap, RKv w x s (.slice ao s.b.length cap) ∧ s.b.length ≤ cap ∧ cap ≤ maxLen := by
  obtain ⟨v, h1, h2⟩ := h.mem
  rcases h2 with ⟨rfl, h3, h4⟩ | ⟨g, cap, rfl, h3, h4⟩
  · exact ⟨none, 0, ⟨by rw [h3]; exact h1, .inl ⟨by rw [h3], h3, h4⟩⟩, by omega, by unfold maxLen; omega⟩
  · exact ⟨_, cap, ⟨h1, .inr ⟨g, cap, rfl, h3, h4⟩⟩, h4.2.1, h4.2.2.1⟩
theorem RKv.shut (h : RKv w x s v) (ok : s.Ok) : RK w x s := ⟨⟨v, h.blk, h.has⟩, ok⟩
theorem RKv.c0 (h : RKv w x s v) : w.cell? ⟨x, 0, none⟩ = some v := h.blk.cell rfl
theorem RKv.c1 (h : RKv w x s v) : w.cell? ⟨x, 1, none⟩ = some (.int .i64 s.kept) := h.blk.cell rfl
theorem RKv.c2 (h : RKv w x s v) : w.cell? ⟨x, 2, none⟩ = some (.int .i64 s.size) := h.blk.cell rfl
theorem RKv.c3 (h : RKv w x s v) : w.cell? ⟨x, 3, none⟩ = some (.int .i64 s.left) := h.blk.cell rfl
theorem RKv.c4 (h : RKv w x s v) : w.cell? ⟨x, 4, none⟩ = some (.bool s.gone) := h.blk.cell rfl
theorem RKv.kept (h : RKv w x s v) (kp : ∀ k, x ≤ k → k < w.heap.size → w'.heap[k]? = w.heap[k]?) : RKv w' x s v := ⟨h.blk.kept (kp x (Nat.le_refl _) h.blk.lt), h.has.keptAt (fun k h3 h4 => kp k (by omega) h4)⟩
theorem RKv.later (h : RKv w x s v) (hb : Below w.heap.size w w') : RKv w' x s v := h.kept fun k _ hk => hb.block k hk
theorem RKv.drew (h : RKv w x s v) : RKv w.drew x s v := h.kept fun _ _ _ => rfl
theorem RKv.drewN (h : RKv w x s v) (n : Nat) : RKv (w.drewN n) x s v := h.kept fun _ _ _ => by simp
theorem hasSet {e : TypeId} {n : Nat} {xs : List Value} (h : Has w e (x + 1) v n xs) (j : Nat) (u : Value) : Has (w.setCell ⟨x, j, none⟩ u) e (x + 1) v n xs :=
  h.keptAt fun k h1 _ => heap_setCell_other _ _ _ _ (show k ≠ x by omega)
theorem RKv.setKept (h : RKv w x s v) (m : Nat) : RKv (w.setCell ⟨x, 1, none⟩ (.int .i64 m)) x ⟨s.b, m, s.size, s.left, s.gone⟩ v := ⟨h.blk.setCell 1 _, hasSet h.has _ _⟩
theorem RKv.setLeft (h : RKv w x s v) (m : Nat) : RKv (w.setCell ⟨x, 3, none⟩ (.int .i64 m)) x ⟨s.b, s.kept, s.size, m, s.gone⟩ v := ⟨h.blk.setCell 3 _, hasSet h.has _ _⟩
theorem RKv.setGone (h : RKv w x s v) (g : Bool) : RKv (w.setCell ⟨x, 4, none⟩ (.bool g)) x ⟨s.b, s.kept, s.size, s.left, g⟩ v := ⟨h.blk.setCell 4 _, hasSet h.has _ _⟩
/-- Other bytes, in a later block. -/
theorem RKv.setB (h : RKv w x s v) (hb : Below (x + 1) w w') {v' : Value} {n : Nat} {l : List UInt8} (hH : Has w' 5 (x + 1) v' n (B l)) : RKv (w'.setCell ⟨x, 0, none⟩ v') x ⟨l, s.kept, s.size, s.left, s.gone⟩ v' := by
  have hn : l.length = n := by have := hH.len; rwa [B_length] at this
  subst hn
  exact ⟨(h.blk.kept (hb.block x (by omega))).setCell 0 _, hasSet hH _ _⟩
theorem RKv.lt (h : RKv w x s v) : x < w.heap.size := h.blk.lt
theorem RKv.reads (h : RKv w x s v) : Reads w v (B s.b) := h.has.reads
theorem belowDrewN {Bd : Nat} {w0 : World} (h : Below Bd w0 w) (n : Nat) : Below Bd w0 (w.drewN n) := ⟨h.os, h.tape, h.output, by simpa using h.size, fun k hk => by simpa using h.block k hk⟩
theorem belowSet {w0 : World} (h : Below x w0 w) (j : Nat) (u : Value) : Below x w0 (w.setCell ⟨x, j, none⟩ u) := h.setCell (p := ⟨x, j, none⟩) (Nat.le_refl _) u
end

set_option maxRecDepth 100000 in
theorem xNew_any (n : Int) (w : World) : Calls Try.prog 13 #[.int .i64 n] w fun e w' => e = .returned (.pointer (some ⟨w.heap.size, 0, none⟩)) ∧ RK w' w.heap.size (Dk.new n) ∧ Below w.heap.size w w' := by
  obtain ⟨N, hN⟩ : ∃ N, w.heap.size = N := ⟨_, rfl⟩
  have HR := hid (show ∀ (k : Nat) (w1 : World), (Dk.new n).size = k → Blk w1 56 N [.slice none 0 0, .int .i64 0, .int .i64 (k : Int), .int .i64 0, .bool false] → RK w1 N (Dk.new n) by
    intro k w1 hk hB
    subst hk
    exact ⟨⟨_, hB, Has.nil _ _ _⟩, Dk.new_ok n⟩)
  rw [hN]
  have HN := hid hN
  clear hN
  by_cases h0 : n < 0
  · have hk := hid (show (Dk.new n).size = 0 by show (max 0 (min n 65536)).toNat = _; omega)
    go_enter Try.func13, Try.ntmps13
    go_wp2_with (show wpList _ _ _ (⟨some 7, Op.box _ _, _, _, _, _⟩ :: _) _ _; go_must (refine wpList_box_blk rfl 56 _ rfl [.slice none 0 0, .int .i64 0, .int .i64 0, .int .i64 0, .bool false] rfl N HN.out ?_); intro w2 hB2 hb2 hs2; have HB2 := hid hB2; have Hb2 := hid hb2; clear hB2 hb2)
    go_ret
    exact ⟨rfl, HR.out 0 _ hk.out HB2.out, Hb2.out⟩
  by_cases h1 : 65536 < n
  · have hk := hid (show (Dk.new n).size = 65536 by show (max 0 (min n 65536)).toNat = _; omega)
    go_enter Try.func13, Try.ntmps13
    go_wp2_with (show wpList _ _ _ (⟨some 7, Op.box _ _, _, _, _, _⟩ :: _) _ _; go_must (refine wpList_box_blk rfl 56 _ rfl [.slice none 0 0, .int .i64 0, .int .i64 65536, .int .i64 0, .bool false] rfl N HN.out ?_); intro w2 hB2 hb2 hs2; have HB2 := hid hB2; have Hb2 := hid hb2; clear hB2 hb2)
    go_ret
    exact ⟨rfl, HR.out 65536 _ hk.out HB2.out, Hb2.out⟩
  by_cases h2 : n = 0
  · subst h2
    have hk := hid (show (Dk.new 0).size = 0 from rfl)
    go_enter Try.func13, Try.ntmps13
    go_wp2_with (show wpList _ _ _ (⟨some 7, Op.box _ _, _, _, _, _⟩ :: _) _ _; go_must (refine wpList_box_blk rfl 56 _ rfl [.slice none 0 0, .int .i64 0, .int .i64 0, .int .i64 0, .bool false] rfl N HN.out ?_); intro w2 hB2 hb2 hs2; have HB2 := hid hB2; have Hb2 := hid hb2; clear hB2 hb2)
    go_ret
    exact ⟨rfl, HR.out 0 _ hk.out HB2.out, Hb2.out⟩
  obtain ⟨k, rfl⟩ : ∃ k : Nat, n = (k : Int) := ⟨n.toNat, by omega⟩
  have h3 : (0 : Int) < (k : Int) := by omega
  have hk := hid (show (Dk.new (k : Int)).size = k by show (max 0 (min (k : Int) 65536)).toNat = _; omega)
  go_enter Try.func13, Try.ntmps13
  go_wp2_with (show wpList _ _ _ (⟨some 7, Op.box _ _, _, _, _, _⟩ :: _) _ _; go_must (refine wpList_box_blk rfl 56 _ rfl [.slice none 0 0, .int .i64 0, .int .i64 (k : Int), .int .i64 0, .bool false] rfl N HN.out ?_); intro w2 hB2 hb2 hs2; have HB2 := hid hB2; have Hb2 := hid hb2; clear hB2 hb2)
  go_ret
  exact ⟨rfl, HR.out k _ hk.out HB2.out, Hb2.out⟩

set_option maxRecDepth 100000 in
theorem xStop_any (x : Nat) (s : Dk) (n : Int) (hn : n ≤ 9223372036854775807) (w : World) (h : RK w x s) :
    Calls Try.prog 27 #[.pointer (some ⟨x, 0, none⟩), .int .i64 n] w fun e w' => e = .returned (.tuple #[]) ∧ RK w' x (s.stop n) ∧ Below x w w' := by
  obtain ⟨ao, cap, hv, _, _⟩ := h.opened
  have c3 := hv.c3
  have f3 := hv.blk.frozen 3
  have HX := hid (show ∀ m : Int, max n 0 = m → RK (w.setCell ⟨x, 3, none⟩ (.int .i64 m)) x (s.stop n) ∧ Below x w (w.setCell ⟨x, 3, none⟩ (.int .i64 m)) by
    rintro m rfl
    have e : max n 0 = (((max n 0).toNat : Nat) : Int) := by omega
    rw [e]
    exact ⟨(hv.setLeft (max n 0).toNat).shut (s.stop_ok h.ok n hn), belowSet (Below.refl _ _) _ _⟩)
  clear h hv
  go_enter Try.func27, Try.ntmps27
  go_wp2
  · go_end0
    exact ⟨rfl, HX.out 0 (by omega)⟩
  · go_end0
    exact ⟨rfl, HX.out n (by omega)⟩

/-- What the second say's op does to a disk whose power is there. -/
def Dk.op (s : Dk) : Dk := ⟨s.b, s.kept, s.size, s.left - 1, decide (s.left = 1)⟩

set_option maxRecDepth 100000 in
set_option maxHeartbeats 1000000 in
theorem xOp_any (x : Nat) (s : Dk) (hg : s.gone = false) (hl : s.left ≤ 9223372036854775807) (v : Value) (w : World) (h : RKv w x s v) :
    Calls Try.prog 37 #[.pointer (some ⟨x, 0, none⟩)] w fun e w' => e = .returned (.bool (decide (s.left = 1))) ∧ RKv w' x s.op v ∧ Below x w w' ∧ Only w w' x x := by
  obtain ⟨b, kept, size, left, gone⟩ := s
  simp only at hg hl
  subst hg
  have HK := hid h
  have c3 : w.cell? ⟨x, 3, none⟩ = some (.int .i64 (left : Int)) := h.c3
  have c4 : w.cell? ⟨x, 4, none⟩ = some (.bool false) := h.c4
  have f3 := h.blk.frozen 3
  have f4 := h.blk.frozen 4
  clear h
  cases left with
  | zero =>
    go_enter Try.func37, Try.ntmps37
    go_wp2
    go_ret
    exact ⟨rfl, HK.out, Below.refl _ _, Only.refl _ _ _⟩
  | succ m =>
    have hpos : (0 : Int) < ((m + 1 : Nat) : Int) := by omega
    have hd : decide (m + 1 = 1) = ((m : Int) == 0) := by
      by_cases hm : m = 0
      · subst hm; rfl
      · rw [decide_eq_false (by omega), eq_comm, beq_eq_false_iff_ne]; omega
    have HD := hid hd
    have HX := hid (show RKv ((w.setCell ⟨x, 3, none⟩ (.int .i64 (m : Int))).setCell ⟨x, 4, none⟩ (.bool ((m : Int) == 0))) x (Dk.op ⟨b, kept, size, m + 1, false⟩) v ∧ Below x w ((w.setCell ⟨x, 3, none⟩ (.int .i64 (m : Int))).setCell ⟨x, 4, none⟩ (.bool ((m : Int) == 0))) ∧ Only w ((w.setCell ⟨x, 3, none⟩ (.int .i64 (m : Int))).setCell ⟨x, 4, none⟩ (.bool ((m : Int) == 0))) x x from
      ⟨by have := (HK.out.setLeft m).setGone ((m : Int) == 0); rw [← hd] at this ⊢; exact this, belowSet (belowSet (Below.refl _ _) _ _) _ _, (Only.set _ _ _ _ _).trans (Only.set _ _ _ _ _)⟩)
    clear hd
    go_enter Try.func37, Try.ntmps37
    go_wp2
    go_ret
    exact ⟨by rw [HD.out]; rfl, HX.out⟩
set_option maxRecDepth 100000 in
set_option maxHeartbeats 2000000 in
theorem xAppend_any (x : Nat) (s : Dk) (ao : Option Addr) (cap : Nat) (u : Value) (l : List UInt8) (w : World) (hv : RKv w x s (.slice ao s.b.length cap)) (hok : s.Ok) (hu : Reads w u (B l)) (hll : l.length ≤ 140737488355328) :
    Calls Try.prog 24 #[.pointer (some ⟨x, 0, none⟩), u] w fun e w' => e = .returned (.int .i64 (s.app l).1) ∧ RK w' x (s.app l).2 ∧ Below x w w' ∧ ∀ k, k < w.heap.size → k ≠ x → ao ≠ some ⟨k, 0, none⟩ → w'.heap[k]? = w.heap[k]? := by
  obtain ⟨i0, hi, hz0, hz1, hz2⟩ := info_parts Try.infoByte
  have HR := hid (hv.shut hok)
  have HOK := hid (Dk.app_ok s hok l)
  have HV := hid hv
  have HU := hid hu
  have c0 := hv.c0
  have c2 := hv.c2
  have c4 := hv.c4
  have hk2 := hok.len
  have hk3 := hok.size
  have hk4 := hok.left
  obtain ⟨uo, ucap, rfl, hcap, _, _⟩ := hu
  rw [B_length] at hcap HU ⊢
  clear hv hok
  cases hg : s.gone with
  | true =>
    rw [hg] at c4
    have HE := hid (show s.app l = (18, s) by rw [Dk.app, if_pos hg])
    clear hg
    go_enter Try.func24, Try.ntmps24
    go_wp2_with fail
    go_ret
    exact ⟨by rw [HE.out]; rfl, by rw [HE.out]; exact HR.out, Below.refl _ _, fun _ _ _ _ => rfl⟩
  | false =>
  rw [hg] at c4
  have HG := hid hg
  clear hg
  by_cases h1 : s.size - s.b.length < l.length
  · have h1' : (s.size : Int) - (s.b.length : Int) < (l.length : Int) := by omega
    have HE := hid (show s.app l = (19, s) by rw [Dk.app, if_neg (by rw [HG.out]; simp), if_pos h1])
    clear h1
    go_enter Try.func24, Try.ntmps24
    go_wp2_with fail
    go_quiet (fail)
    go_wp2_with fail
    go_ret
    exact ⟨by rw [HE.out]; rfl, by rw [HE.out]; exact HR.out.kept (fun _ _ _ => by simp), belowDrewN (Below.refl _ _) _, fun k h1 _ _ => (belowDrewN (Below.refl w.heap.size w) _).block k h1⟩
  have h1' : ¬ (s.size : Int) - (s.b.length : Int) < (l.length : Int) := by omega
  have HLE := hid h1
  clear h1
  go_enter Try.func24, Try.ntmps24
  go_wp2_with fail
  go_quiet (fail)
  have HVq := hid (HV.out.drewN nq)
  have HUq := hid (HU.out.later (belowDrewN (Below.refl w.heap.size w) nq))
  have Hbq := hid (show Below x w (w.drewN nq) ∧ ∀ k : Nat, (w.drewN nq).heap[k]? = w.heap[k]? from ⟨belowDrewN (Below.refl _ _) _, fun k => by rw [show (w.drewN nq).heap = w.heap by simp]⟩)
  have HSQ := hid (show (w.drewN nq).heap.size = w.heap.size by simp)
  clear HV HU c0 c2 c4
  generalize w.drewN nq = w1 at *
  have c0 := HVq.out.c0
  have f0 := HVq.out.blk.frozen 0
  go_wp2_with (at_builtin; go_must (refine wpList_append_keep rfl _ _ 31 31 rfl 5 i0 (.int .u8 0) Try.underlying31 hi hz0 hz1 hz2 rfl (x + 1) ao s.b.length cap (B s.b) rfl HVq.out.has HVq.out.lt _ l.length (B l) rfl (Src.ofBytes _ Try.underlying31 rfl HUq.out) (by have := HLE.out; omega) ?_); go_must (intro v2 w2 hH2 hb2 hk2'; obtain ⟨a2, k2, rfl⟩ := hH2.form; have HX := hid (show ∀ w3, w3 = w2.setCell ⟨x, 0, none⟩ (.slice a2 (s.b.length + l.length) k2) → RKv w3 x ⟨s.b ++ l, s.kept, s.size, s.left, s.gone⟩ (.slice a2 (s.b.length + l.length) k2) ∧ Below x w w3 ∧ w.heap.size ≤ w3.heap.size ∧ ∀ k, k < w.heap.size → k ≠ x → ao ≠ some ⟨k, 0, none⟩ → w3.heap[k]? = w.heap[k]? from fun w3 e => by rw [e]; exact ⟨HVq.out.setB hb2 (by rw [B_append]; exact hH2), belowSet (Hbq.out.1.trans (hb2.mono (Nat.le_succ x))) _ _, by have := hb2.size; rw [HSQ.out] at this; simpa [World.setCell] using this, fun k h1 h2 h3 => by rw [heap_setCell_other _ _ _ _ h2, hk2' k (by rw [HSQ.out]; exact h1) h3, Hbq.out.2 k]⟩); replace c0 : w2.cell? ⟨x, 0, none⟩ = some (.slice ao s.b.length cap) := (HVq.out.blk.kept (hb2.block x (Nat.lt_succ_self x))).cell rfl; replace f0 : w2.frozen? ⟨x, 0, none⟩ = false := (HVq.out.blk.kept (hb2.block x (Nat.lt_succ_self x))).frozen 0; clear hH2 hb2 hk2'))
  obtain ⟨w3, hw3⟩ : ∃ w3, w3 = w2.setCell ⟨x, 0, none⟩ (.slice a2 (s.b.length + l.length) k2) := ⟨_, rfl⟩
  rw [← hw3]
  have HX3 := hid (HX.out _ hw3)
  clear hw3 HX c0 f0 HVq HUq
  refine (xOp_any x ⟨s.b ++ l, s.kept, s.size, s.left, s.gone⟩ HG.out hk4 _ _ HX3.out.1).mono ?_
  rintro _ w4 ⟨rfl, hD, ho, ho2⟩
  have HD := hid hD
  have Ho := hid (HX3.out.2.1.trans ho)
  have HQ := hid (show ∀ k, k < w.heap.size → k ≠ x → ao ≠ some ⟨k, 0, none⟩ → w4.heap[k]? = w.heap[k]? from fun k h1 h2 h3 => by rw [ho2.block k (Nat.lt_of_lt_of_le h1 HX3.out.2.2.1) h2 h2, HX3.out.2.2.2 k h1 h2 h3])
  clear hD ho ho2 HX3
  simp only
  by_cases h2 : s.left = 1
  · have HE := hid (show s.app l = (18, ⟨s.b ++ l, s.kept, s.size, s.left - 1, decide (s.left = 1)⟩) by rw [Dk.app, if_neg (by rw [HG.out]; simp), if_neg HLE.out, if_pos h2, h2]; rfl)
    rw [decide_eq_true h2]
    clear h2
    go_wp2_with fail
    go_ret
    rw [HE.out] at HOK
    exact ⟨by rw [HE.out]; rfl, by rw [HE.out]; exact HD.out.shut HOK.out, Ho.out, HQ.out⟩
  have HE := hid (show s.app l = (0, ⟨s.b ++ l, s.kept, s.size, s.left - 1, decide (s.left = 1)⟩) by rw [Dk.app, if_neg (by rw [HG.out]; simp), if_neg HLE.out, if_neg h2, decide_eq_false h2])
  rw [decide_eq_false h2]
  clear h2
  go_wp2_with fail
  go_ret
  rw [HE.out] at HOK
  exact ⟨by rw [HE.out]; rfl, by rw [HE.out]; exact HD.out.shut HOK.out, Ho.out, HQ.out⟩

set_option maxRecDepth 100000 in
set_option maxHeartbeats 2000000 in
theorem xSync_any (x : Nat) (s : Dk) (w : World) (h : RK w x s) :
    Calls Try.prog 25 #[.pointer (some ⟨x, 0, none⟩)] w fun e w' => e = .returned (.int .i64 s.sync.1) ∧ RK w' x s.sync.2 ∧ Below x w w' := by
  have HR := hid h
  have hok := h.ok
  have HOK := hid (Dk.cut_ok s hok s.b.length)
  obtain ⟨ao, cap, hv, hc1, hc2⟩ := h.opened
  have HV := hid hv
  have c4 := hv.c4
  have hk4 := hok.left
  clear h hv hok
  cases hg : s.gone with
  | true =>
    rw [hg] at c4
    have HE := hid (show s.sync = (18, s) by rw [Dk.sync, Dk.cut, if_pos hg])
    clear hg
    go_enter Try.func25, Try.ntmps25
    go_wp2_with fail
    go_ret
    exact ⟨by rw [HE.out]; rfl, by rw [HE.out]; exact HR.out, Below.refl _ _⟩
  | false =>
  rw [hg] at c4
  have HG := hid hg
  clear hg
  go_enter Try.func25, Try.ntmps25
  go_wp2_with fail
  refine (xOp_any x s HG.out hk4 _ _ HV.out).mono ?_
  rintro _ w2 ⟨rfl, hD, ho, _⟩
  have HD := hid hD
  have Ho := hid ho
  clear hD ho HV c4
  by_cases h2 : s.left = 1
  · have HE := hid (show s.sync = (18, ⟨s.b, s.kept, s.size, s.left - 1, decide (s.left = 1)⟩) by rw [Dk.sync, Dk.cut, if_neg (by rw [HG.out]; simp), if_neg (by omega), if_pos h2, h2]; rfl)
    rw [decide_eq_true h2]
    clear h2
    go_wp2_with fail
    go_ret
    have ho := HOK.out
    rw [show s.cut s.b.length = s.sync from rfl, HE.out] at ho
    exact ⟨by rw [HE.out]; rfl, by rw [HE.out]; exact HD.out.shut ho, Ho.out⟩
  have HE := hid (show s.sync = (0, ⟨s.b, s.b.length, s.size, s.left - 1, decide (s.left = 1)⟩) by rw [Dk.sync, Dk.cut, if_neg (by rw [HG.out]; simp), if_neg (by omega), if_neg h2, decide_eq_false h2, Int.toNat_natCast, List.take_length])
  rw [decide_eq_false h2]
  clear h2
  have c0 : w2.cell? ⟨x, 0, none⟩ = some (.slice ao s.b.length cap) := HD.out.c0
  have c1 : w2.cell? ⟨x, 1, none⟩ = some (.int .i64 s.kept) := HD.out.c1
  have f1 := HD.out.blk.frozen 1
  have HX := hid (show RKv (w2.setCell ⟨x, 1, none⟩ (.int .i64 (s.b.length : Int))) x ⟨s.b, s.b.length, s.size, s.left - 1, decide (s.left = 1)⟩ (.slice ao s.b.length cap) ∧ Below x w (w2.setCell ⟨x, 1, none⟩ (.int .i64 (s.b.length : Int))) from ⟨HD.out.setKept s.b.length, belowSet Ho.out _ _⟩)
  clear HD Ho
  go_wp2_with fail
  go_ret
  have ho := HOK.out
  rw [show s.cut s.b.length = s.sync from rfl, HE.out] at ho
  exact ⟨by rw [HE.out]; rfl, by rw [HE.out]; exact HX.out.1.shut ho, HX.out.2⟩

set_option maxRecDepth 100000 in
set_option maxHeartbeats 2000000 in
theorem xCut_any (x : Nat) (s : Dk) (n : Int) (w : World) (h : RK w x s) :
    Calls Try.prog 26 #[.pointer (some ⟨x, 0, none⟩), .int .i64 n] w fun e w' => e = .returned (.int .i64 (s.cut n).1) ∧ RK w' x (s.cut n).2 ∧ Below x w w' := by
  obtain ⟨i0, hi, hz0, hz1, hz2⟩ := info_parts Try.infoByte
  have HR := hid h
  have hok := h.ok
  have HOK := hid (Dk.cut_ok s hok n)
  obtain ⟨ao, cap, hv, hc1, hc2⟩ := h.opened
  have HV := hid hv
  have c0 := hv.c0
  have c4 := hv.c4
  have hk2 := hok.len
  have hk3 := hok.size
  have hk4 := hok.left
  clear h hv hok
  cases hg : s.gone with
  | true =>
    rw [hg] at c4
    have HE := hid (show s.cut n = (18, s) by rw [Dk.cut, if_pos hg])
    clear hg
    go_enter Try.func26, Try.ntmps26
    go_wp2_with fail
    go_ret
    exact ⟨by rw [HE.out]; rfl, by rw [HE.out]; exact HR.out, Below.refl _ _⟩
  | false =>
  rw [hg] at c4
  have HG := hid hg
  clear hg
  by_cases h0 : n < 0
  · have HE := hid (show s.cut n = (1, s) by rw [Dk.cut, if_neg (by rw [HG.out]; simp), if_pos (Or.inl h0)])
    go_enter Try.func26, Try.ntmps26
    go_wp2_with fail
    go_ret
    exact ⟨by rw [HE.out]; rfl, by rw [HE.out]; exact HR.out, Below.refl _ _⟩
  by_cases h1 : (s.b.length : Int) < n
  · have HE := hid (show s.cut n = (1, s) by rw [Dk.cut, if_neg (by rw [HG.out]; simp), if_pos (Or.inr h1)])
    go_enter Try.func26, Try.ntmps26
    go_wp2_with fail
    go_ret
    exact ⟨by rw [HE.out]; rfl, by rw [HE.out]; exact HR.out, Below.refl _ _⟩
  obtain ⟨m, rfl⟩ : ∃ m : Nat, n = (m : Int) := ⟨n.toNat, by omega⟩
  have hm : m ≤ s.b.length := by omega
  go_enter Try.func26, Try.ntmps26
  go_wp2_with fail
  refine (xOp_any x s HG.out hk4 _ _ HV.out).mono ?_
  rintro _ w2 ⟨rfl, hD, ho, _⟩
  have HD := hid hD
  have Ho := hid ho
  clear hD ho HV c0 c4
  by_cases h2 : s.left = 1
  · have HE := hid (show s.cut (m : Int) = (18, ⟨s.b, s.kept, s.size, s.left - 1, decide (s.left = 1)⟩) by rw [Dk.cut, if_neg (by rw [HG.out]; simp), if_neg (by omega), if_pos h2, h2]; rfl)
    rw [decide_eq_true h2]
    clear h2
    go_wp2_with fail
    go_ret
    have ho := HOK.out
    rw [HE.out] at ho
    exact ⟨by rw [HE.out]; rfl, by rw [HE.out]; exact HD.out.shut ho, Ho.out⟩
  have HE := hid (show s.cut (m : Int) = (0, ⟨s.b.take m, m, s.size, s.left - 1, decide (s.left = 1)⟩) by rw [Dk.cut, if_neg (by rw [HG.out]; simp), if_neg (by omega), if_neg h2, decide_eq_false h2, Int.toNat_natCast])
  rw [decide_eq_false h2]
  clear h2
  have c0 : w2.cell? ⟨x, 0, none⟩ = some (.slice ao s.b.length cap) := HD.out.c0
  obtain ⟨p, c, hpc, hcut, hrd⟩ := cut_low ao s.b.length cap m s.b rfl hm hc1 hc2
  have HRD := hid hrd
  have HLT := hid HD.out.lt
  have hlt := HD.out.lt
  have HZ := hid (show w2.heap.size ≤ (w2.alloc (.cells #[] 5)).heap.size by simp)
  have HVA := hid (HD.out.later ((Below.refl w2.heap.size w2).alloc (Nat.le_refl _) (.cells #[] 5)))
  have HbA := hid (show Below x w (w2.alloc (.cells #[] 5)) from Ho.out.alloc (Nat.le_of_lt HD.out.lt) _)
  clear hrd
  go_wp2_with (at_builtin; go_must (refine wpList_append_any rfl _ _ 31 31 rfl 5 i0 (.int .u8 0) Try.underlying31 hi hz0 hz1 hz2 rfl (x + 1) _ 0 [] rfl (.inr ⟨w2.heap.size, 0, rfl, HLT.out, Owns.empty _ _⟩) (Nat.le_trans HLT.out HZ.out) _ m (B (s.b.take m)) rfl (Src.ofBytes _ Try.underlying31 (by rw [List.length_take]; omega) (HRD.out _ HVA.out.reads)) (by omega) ?_); go_must (intro v3 w3 hH3 hb3; rw [List.nil_append, Nat.zero_add] at hH3; obtain ⟨a3, k3, rfl⟩ := hH3.form; have HX := hid (show ∀ w4, w4 = (w3.setCell ⟨x, 0, none⟩ (.slice a3 m k3)).setCell ⟨x, 1, none⟩ (.int .i64 (m : Int)) → RKv w4 x ⟨s.b.take m, m, s.size, s.left - 1, decide (s.left = 1)⟩ (.slice a3 m k3) ∧ Below x w w4 from fun w4 e => by rw [e]; exact ⟨(HVA.out.setB hb3 hH3).setKept m, belowSet (belowSet (HbA.out.trans (hb3.mono (Nat.le_succ x))) _ _) _ _⟩); have HB3 := HVA.out.blk.kept (hb3.block x (Nat.lt_succ_self x)); replace c0 : w3.cell? ⟨x, 0, none⟩ = some (.slice ao s.b.length cap) := HB3.cell rfl; have c1 : w3.cell? ⟨x, 1, none⟩ = some (.int .i64 s.kept) := HB3.cell rfl; have f0 : w3.frozen? ⟨x, 0, none⟩ = false := HB3.frozen 0; have f1 : w3.frozen? ⟨x, 1, none⟩ = false := HB3.frozen 1; clear hH3 hb3 HB3))
  obtain ⟨w4, hw4⟩ : ∃ w4, w4 = (w3.setCell ⟨x, 0, none⟩ (.slice a3 m k3)).setCell ⟨x, 1, none⟩ (.int .i64 (m : Int)) := ⟨_, rfl⟩
  rw [← hw4]
  have HX4 := hid (HX.out _ hw4)
  go_ret
  have ho := HOK.out
  rw [HE.out] at ho
  exact ⟨by rw [HE.out]; rfl, by rw [HE.out]; exact HX4.out.1.shut ho, HX4.out.2⟩

set_option maxRecDepth 100000 in
set_option maxHeartbeats 1000000 in
theorem xRead_any (x : Nat) (s : Dk) (w : World) (h : RK w x s) : Calls Try.prog 29 #[.pointer (some ⟨x, 0, none⟩)] w (ReadR s w) := by
  obtain ⟨i0, hi, hz0, hz1, hz2⟩ := info_parts Try.infoByte
  have hok := h.ok
  obtain ⟨ao, cap, hv, hc1, hc2⟩ := h.opened
  have HV := hid hv
  have c0 := hv.c0
  have c4 := hv.c4
  have hk2 := hok.len
  have hk3 := hok.size
  clear h hv hok
  cases hg : s.gone with
  | true =>
    rw [hg] at c4
    have HE := hid (show s.read = ([], 18) by rw [Dk.read, if_pos hg])
    clear hg
    go_enter Try.func29, Try.ntmps29
    go_wp2_with fail
    go_ret2
    exact ⟨.slice none 0 0, by rw [HE.out]; rfl, by rw [HE.out]; exact Has.nil _ _ _, Below.refl _ _⟩
  | false =>
    rw [hg] at c4
    have HE := hid (show s.read = (s.b, 0) by rw [Dk.read, hg, if_neg (by simp)])
    clear hg
    have HRD := hid (HV.out.later ((Below.refl w.heap.size w).alloc (Nat.le_refl _) (.cells #[] 5))).reads
    have HbA := hid (show Below w.heap.size w (w.alloc (.cells #[] 5)) from (Below.refl _ _).alloc (Nat.le_refl _) _)
    have hlt := HV.out.lt
    clear HV
    go_enter Try.func29, Try.ntmps29
    go_wp2_with (at_builtin; go_must (refine wpList_append_any rfl _ _ 31 31 rfl 5 i0 (.int .u8 0) Try.underlying31 hi hz0 hz1 hz2 rfl w.heap.size _ 0 [] rfl (.inr ⟨w.heap.size, 0, rfl, Nat.le_refl _, Owns.empty _ _⟩) HbA.out.size _ s.b.length (B s.b) rfl (Src.ofBytes _ Try.underlying31 rfl HRD.out) (by omega) ?_); go_must (intro v3 w3 hH3 hb3; rw [List.nil_append, Nat.zero_add] at hH3; have HH3 := hid hH3; have Hb3 := hid (HbA.out.trans hb3); clear hH3 hb3))
    go_ret2
    exact ⟨v3, by rw [HE.out]; rfl, by rw [HE.out]; exact HH3.out, Hb3.out⟩
end Go.Proofs.Ytekcoeckgolhcaa
