/- The contracts of the second say's New, op, Append, Sync, Cut, Stop, Read (chapter 10). -/
import Derived.Test.YtifdoneffnfogaaQ11c
import Derived.Test.YtifdoneffnfogaaKRead
import Derived.Test.YtifdoneffnfogaaByteI
import Derived.Test.YtifdoneffnfogaaAppAny
import Derived.Test.YtifdoneffnfogaaTmod
import Derived.WalkLawsBesides
import Derived.BigQuiet
import Derived.Deep.RegionHeld3
import Derived.Deep.Cut
namespace Go.Proofs.Ytifdoneffnfogaa
open Go.RowKit
set_option linter.unusedSimpArgs false
set_option linter.unusedVariables false

/-- The second say's disk, its slice and its block told. -/
structure RKv (w : World) (x : Nat) (s : Dk) (v : Value) : Prop where
  blk : Blk w 59 x [v, .int .i64 s.kept, .int .i64 s.size, .int .i64 s.left, .bool s.gone]
  has : Has w 5 (x + 1) v s.b.length (B s.b)
section
variable {w w' : World} {x : Nat} {s : Dk} {v : Value}
theorem RK.opened (h : RK w x s) : ∃ ao cap, RKv w x s (.slice ao s.b.length cap) ∧ s.b.length ≤ cap ∧ cap ≤ maxLen := by
  obtain ⟨v, h1, h2⟩ := h.mem
  rcases h2 with ⟨rfl, h3, h4⟩ | ⟨g, cap, rfl, h3, h4⟩
  · exact ⟨none, 0, ⟨by rw [h3]; exact h1, .inl ⟨by rw [h3], h3, h4⟩⟩, by omega, by unfold maxLen; omega⟩
  · exact ⟨_, cap, ⟨h1, .inr ⟨g, cap, rfl, h3, h4⟩⟩, h4.2.1, h4.2.2.1⟩
theorem RKv.shut (h : RKv w x s v) (ok : s.Ok) : RK w x s := ⟨⟨v, h.blk, h.has⟩, ok⟩
theorem RKv.c0 (h : RKv w x s v) : w.cell? ⟨x, 0, none⟩ = some v := h.blk.cell rfl
theorem RKv.c1 (h : RKv w x s v) : w.cell? ⟨x, 1, none⟩ = some (.int .i64 s.kept) := h.blk.cell rfl
theorem RKv.c2 (h : RKv w x s v) : w.cell? ⟨x, 2, none⟩ = some (.int .i64 s.size) := h.blk.cell rfl
theorem RKv.c3 (h : RKv w x s v) : w.cell? ⟨x, 3, none⟩ = some (.int .i64 s.left) := h.blk.cell rfl
theorem RKv.c4 (h : RKv w x s v) : w.cell? ⟨x, 4, none⟩ = some (.bool s.gone) := h.blk.cell rfl
theorem RKv.kept (h : RKv w x s v) (kp : ∀ k, x ≤ k → k < w.heap.size → w'.heap[k]? = w.heap[k]?) : RKv w' x s v := ⟨h.blk.kept (kp x (Nat.le_refl _) h.blk.lt), h.has.keptAt (fun k h3 h4 => kp k (by omega) h4)⟩
theorem RKv.later (h : RKv w x s v) (hb : Below w.heap.size w w') : RKv w' x s v := h.kept fun k _ hk => hb.block k hk
theorem RKv.drew (h : RKv w x s v) : RKv w.drew x s v := h.kept fun _ _ _ => rfl
theorem RKv.drewN (h : RKv w x s v) (n : Nat) : RKv (w.drewN n) x s v := h.kept fun _ _ _ => by simp
theorem hasSet {e : TypeId} {n : Nat} {xs : List Value} (h : Has w e (x + 1) v n xs) (j : Nat) (u : Value) : Has (w.setCell ⟨x, j, none⟩ u) e (x + 1) v n xs :=
  h.keptAt fun k h1 _ => heap_setCell_other _ _ _ _ (show k ≠ x by omega)
theorem RKv.setKept (h : RKv w x s v) (m : Nat) : RKv (w.setCell ⟨x, 1, none⟩ (.int .i64 m)) x ⟨s.b, m, s.size, s.left, s.gone⟩ v := ⟨h.blk.setCell 1 _, hasSet h.has _ _⟩
theorem RKv.setLeft (h : RKv w x s v) (m : Nat) : RKv (w.setCell ⟨x, 3, none⟩ (.int .i64 m)) x ⟨s.b, s.kept, s.size, m, s.gone⟩ v := ⟨h.blk.setCell 3 _, hasSet h.has _ _⟩
theorem RKv.setGone (h : RKv w x s v) (g : Bool) : RKv (w.setCell ⟨x, 4, none⟩ (.bool g)) x ⟨s.b, s.kept, s.size, s.left, g⟩ v := ⟨h.blk.setCell 4 _, hasSet h.has _ _⟩
/-- Other bytes, in a later block. -/
theorem RKv.setB (h : RKv w x s v) (hb : Below (x + 1) w w') {v' : Value} {n : Nat} {l : List UInt8} (hH : Has w' 5 (x + 1) v' n (B l)) : RKv (w'.setCell ⟨x, 0, none⟩ v') x ⟨l, s.kept, s.size, s.left, s.gone⟩ v' := by
  have hn : l.length = n := by have := hH.len; rwa [B_length] at this
  subst hn
  exact ⟨(h.blk.kept (hb.block x (by omega))).setCell 0 _, hasSet hH _ _⟩
theorem RKv.lt (h : RKv w x s v) : x < w.heap.size := h.blk.lt
theorem RKv.reads (h : RKv w x s v) : Reads w v (B s.b) := h.has.reads
theorem belowDrewN {Bd : Nat} {w0 : World} (h : Below Bd w0 w) (n : Nat) : Below Bd w0 (w.drewN n) := ⟨h.os, h.tape, h.output, by simpa using h.size, fun k hk => by simpa using h.block k hk⟩
theorem belowSet {w0 : World} (h : Below x w0 w) (j : Nat) (u : Value) : Below x w0 (w.setCell ⟨x, j, none⟩ u) := h.setCell (p := ⟨x, j, none⟩) (Nat.le_refl _) u
/-- v is a slice from the head of block k on. -/
def Bk (v : Value) (k : Nat) : Prop := ∃ n c, v = .slice (some ⟨k, 0, none⟩) n c
theorem RKv.bk (h : RKv w x s v) {k : Nat} (hk : Bk v k) : x < k ∧ k < w.heap.size := by
  obtain ⟨n, c, e⟩ := hk
  rcases h.has with ⟨e1, _⟩ | ⟨g, c', e1, h1, h2⟩
  · rw [e] at e1; cases e1
  · rw [e] at e1
    injection e1 with e1
    injection e1 with e1
    injection e1 with e1
    subst e1
    exact ⟨h1, h2.lt⟩
end
/-- Of the blocks that were there, a disk's own and its bytes' alone have changed; its bytes lie where they lay, or in a new one. -/
structure XStep (w w' : World) (x : Nat) (v v' : Value) : Prop where
  os : w'.os = w.os
  tape : w'.tape = w.tape
  output : w'.output = w.output
  size : w.heap.size ≤ w'.heap.size
  block : ∀ k, k < w.heap.size → k ≠ x → ¬ Bk v k → w'.heap[k]? = w.heap[k]?
  fresh : ∀ k, Bk v' k → Bk v k ∨ w.heap.size ≤ k
section
variable {w w1 w' : World} {x : Nat} {v v1 v' : Value} {s : Dk}
theorem XStep.refl (w : World) (x : Nat) (v : Value) : XStep w w x v v := ⟨rfl, rfl, rfl, Nat.le_refl _, fun _ _ _ _ => rfl, fun _ h => .inl h⟩
theorem XStep.trans (a : XStep w w1 x v v1) (b : XStep w1 w' x v1 v') : XStep w w' x v v' :=
  ⟨b.os.trans a.os, b.tape.trans a.tape, b.output.trans a.output, Nat.le_trans a.size b.size,
   fun k h1 h2 h3 => by
    rw [b.block k (Nat.lt_of_lt_of_le h1 a.size) h2 (fun h4 => (a.fresh k h4).elim h3 (fun h5 => by omega)), a.block k h1 h2 h3],
   fun k h => (b.fresh k h).elim (a.fresh k) (fun h5 => .inr (Nat.le_trans a.size h5))⟩
theorem XStep.set (w : World) (x j : Nat) (u v : Value) : XStep w (w.setCell ⟨x, j, none⟩ u) x v v := ⟨rfl, rfl, rfl, by simp [World.setCell], fun k _ h _ => heap_setCell_other _ _ _ _ h, fun _ h => .inl h⟩
theorem XStep.of_below (h : Below w.heap.size w w') (x : Nat) (v : Value) : XStep w w' x v v := ⟨h.os, h.tape, h.output, h.size, fun k hk _ _ => h.block k hk, fun _ h => .inl h⟩
/-- New bytes in a new block, their slice put down. -/
theorem XStep.put (h : Below w.heap.size w w1) {n : Nat} {xs : List Value} {e : TypeId} (hH : Has w1 e w.heap.size v' n xs) (x j : Nat) (v : Value) : XStep w (w1.setCell ⟨x, j, none⟩ v') x v v' :=
  ⟨h.os, h.tape, h.output, by simpa [World.setCell] using h.size, fun k hk h1 _ => by rw [heap_setCell_other _ _ _ _ h1, h.block k hk], fun k hk => by
    obtain ⟨n, c, e⟩ := hk
    rcases hH with ⟨e1, _⟩ | ⟨g, c', e1, h1, h2⟩
    · rw [e] at e1; cases e1
    · rw [e] at e1
      injection e1 with e1
      injection e1 with e1
      injection e1 with e1
      subst e1
      exact .inr h1⟩
/-- Bytes that grew by an append, their slice put down. -/
theorem XStep.grew {ao : Option Addr} {n cap : Nat} (hb : Below (x + 1) w w1) (hk : ∀ k, k < w.heap.size → ao ≠ some ⟨k, 0, none⟩ → w1.heap[k]? = w.heap[k]?) (hn : ∀ k n' c', v' = .slice (some ⟨k, 0, none⟩) n' c' → ao = some ⟨k, 0, none⟩ ∨ w.heap.size ≤ k) : XStep w (w1.setCell ⟨x, 0, none⟩ v') x (.slice ao n cap) v' :=
  ⟨hb.os, hb.tape, hb.output, by simpa [World.setCell] using hb.size, fun k h1 h2 h3 => by rw [heap_setCell_other _ _ _ _ h2, hk k h1 (fun e => h3 ⟨n, cap, by rw [e]⟩)], fun k ⟨n', c', e⟩ => (hn k n' c' e).imp (fun e2 => ⟨n, cap, by rw [e2]⟩) id⟩
theorem XStep.below (h : XStep w w' x v v') (hv : RKv w x s v) : Below x w w' := ⟨h.os, h.tape, h.output, h.size, fun k hk => h.block k (by have := hv.lt; omega) (by omega) (fun h2 => by have := (hv.bk h2).1; omega)⟩
end

set_option maxRecDepth 100000 in
theorem xNew_any (n : Int) (w : World) : Calls Try.prog 11 #[.int .i64 n] w fun e w' => e = .returned (.pointer (some ⟨w.heap.size, 0, none⟩)) ∧ RK w' w.heap.size (Dk.new n) ∧ Below w.heap.size w w' := by
  obtain ⟨N, hN⟩ : ∃ N, w.heap.size = N := ⟨_, rfl⟩
  have HR := hid (show ∀ (k : Nat) (w1 : World), (Dk.new n).size = k → Blk w1 59 N [.slice none 0 0, .int .i64 0, .int .i64 (k : Int), .int .i64 0, .bool false] → RK w1 N (Dk.new n) by
    intro k w1 hk hB
    subst hk
    exact ⟨⟨_, hB, Has.nil _ _ _⟩, Dk.new_ok n⟩)
  rw [hN]
  have HN := hid hN
  clear hN
  by_cases h0 : n < 0
  · have hk := hid (show (Dk.new n).size = 0 by show (max 0 (min n 65536)).toNat = _; omega)
    go_enter Try.func11, Try.ntmps11
    go_wp2_with (show wpList _ _ _ (⟨some 7, Op.box _ _, _, _, _, _⟩ :: _) _ _; go_must (refine wpList_box_blk rfl 59 _ rfl [.slice none 0 0, .int .i64 0, .int .i64 0, .int .i64 0, .bool false] rfl N HN.out ?_); intro w2 hB2 hb2 hs2; have HB2 := hid hB2; have Hb2 := hid hb2; clear hB2 hb2)
    go_ret
    exact ⟨rfl, HR.out 0 _ hk.out HB2.out, Hb2.out⟩
  by_cases h1 : 65536 < n
  · have hk := hid (show (Dk.new n).size = 65536 by show (max 0 (min n 65536)).toNat = _; omega)
    go_enter Try.func11, Try.ntmps11
    go_wp2_with (show wpList _ _ _ (⟨some 7, Op.box _ _, _, _, _, _⟩ :: _) _ _; go_must (refine wpList_box_blk rfl 59 _ rfl [.slice none 0 0, .int .i64 0, .int .i64 65536, .int .i64 0, .bool false] rfl N HN.out ?_); intro w2 hB2 hb2 hs2; have HB2 := hid hB2; have Hb2 := hid hb2; clear hB2 hb2)
    go_ret
    exact ⟨rfl, HR.out 65536 _ hk.out HB2.out, Hb2.out⟩
  by_cases h2 : n = 0
  · subst h2
    have hk := hid (show (Dk.new 0).size = 0 from rfl)
    go_enter Try.func11, Try.ntmps11
    go_wp2_with (show wpList _ _ _ (⟨some 7, Op.box _ _, _, _, _, _⟩ :: _) _ _; go_must (refine wpList_box_blk rfl 59 _ rfl [.slice none 0 0, .int .i64 0, .int .i64 0, .int .i64 0, .bool false] rfl N HN.out ?_); intro w2 hB2 hb2 hs2; have HB2 := hid hB2; have Hb2 := hid hb2; clear hB2 hb2)
    go_ret
    exact ⟨rfl, HR.out 0 _ hk.out HB2.out, Hb2.out⟩
  obtain ⟨k, rfl⟩ : ∃ k : Nat, n = (k : Int) := ⟨n.toNat, by omega⟩
  have h3 : (0 : Int) < (k : Int) := by omega
  have hk := hid (show (Dk.new (k : Int)).size = k by show (max 0 (min (k : Int) 65536)).toNat = _; omega)
  go_enter Try.func11, Try.ntmps11
  go_wp2_with (show wpList _ _ _ (⟨some 7, Op.box _ _, _, _, _, _⟩ :: _) _ _; go_must (refine wpList_box_blk rfl 59 _ rfl [.slice none 0 0, .int .i64 0, .int .i64 (k : Int), .int .i64 0, .bool false] rfl N HN.out ?_); intro w2 hB2 hb2 hs2; have HB2 := hid hB2; have Hb2 := hid hb2; clear hB2 hb2)
  go_ret
  exact ⟨rfl, HR.out k _ hk.out HB2.out, Hb2.out⟩

set_option maxRecDepth 100000 in
theorem xStop_v (x : Nat) (s : Dk) (n : Int) (v : Value) (w : World) (hv : RKv w x s v) :
    Calls Try.prog 20 #[.pointer (some ⟨x, 0, none⟩), .int .i64 n] w fun e w' => e = .returned (.tuple #[]) ∧ RKv w' x (s.stop n) v ∧ XStep w w' x v v := by
  have c3 := hv.c3
  have f3 := hv.blk.frozen 3
  have HX := hid (show ∀ m : Int, max n 0 = m → RKv (w.setCell ⟨x, 3, none⟩ (.int .i64 m)) x (s.stop n) v ∧ XStep w (w.setCell ⟨x, 3, none⟩ (.int .i64 m)) x v v by
    rintro m rfl
    have e : max n 0 = (((max n 0).toNat : Nat) : Int) := by omega
    rw [e]
    exact ⟨hv.setLeft (max n 0).toNat, XStep.set _ _ _ _ _⟩)
  clear hv
  go_enter Try.func20, Try.ntmps20
  go_wp2
  · go_end0
    exact ⟨rfl, HX.out 0 (by omega)⟩
  · go_end0
    exact ⟨rfl, HX.out n (by omega)⟩
theorem xStop_any (x : Nat) (s : Dk) (n : Int) (hn : n ≤ 9223372036854775807) (w : World) (h : RK w x s) :
    Calls Try.prog 20 #[.pointer (some ⟨x, 0, none⟩), .int .i64 n] w fun e w' => e = .returned (.tuple #[]) ∧ RK w' x (s.stop n) ∧ Below x w w' := by
  obtain ⟨ao, cap, hv, _, _⟩ := h.opened
  exact (xStop_v x s n _ w hv).mono fun _ _ ⟨h1, h2, h3⟩ => ⟨h1, h2.shut (s.stop_ok h.ok n hn), h3.below hv⟩

/-- An answer with the disk behind it. -/
def XR (w : World) (x : Nat) (v : Value) (r : Int × Dk) (e : Ending) (w' : World) : Prop := ∃ v', e = .returned (.int .i64 r.1) ∧ RKv w' x r.2 v' ∧ XStep w w' x v v'
/-- What the second say's op does to a disk whose power is there. -/
def Dk.op (s : Dk) : Dk := ⟨s.b, s.kept, s.size, s.left - 1, decide (s.left = 1)⟩

set_option maxRecDepth 100000 in
set_option maxHeartbeats 1000000 in
theorem xOp_any (x : Nat) (s : Dk) (hg : s.gone = false) (hl : s.left ≤ 9223372036854775807) (v : Value) (w : World) (h : RKv w x s v) :
    Calls Try.prog 49 #[.pointer (some ⟨x, 0, none⟩)] w fun e w' => e = .returned (.bool (decide (s.left = 1))) ∧ RKv w' x s.op v ∧ XStep w w' x v v := by
  obtain ⟨b, kept, size, left, gone⟩ := s
  simp only at hg hl
  subst hg
  have HK := hid h
  have c3 : w.cell? ⟨x, 3, none⟩ = some (.int .i64 (left : Int)) := h.c3
  have c4 : w.cell? ⟨x, 4, none⟩ = some (.bool false) := h.c4
  have f3 := h.blk.frozen 3
  have f4 := h.blk.frozen 4
  clear h
  cases left with
  | zero =>
    go_enter Try.func49, Try.ntmps49
    go_wp2
    go_ret
    exact ⟨rfl, HK.out, XStep.refl _ _ _⟩
  | succ m =>
    have hpos : (0 : Int) < ((m + 1 : Nat) : Int) := by omega
    have hd : decide (m + 1 = 1) = ((m : Int) == 0) := by
      by_cases hm : m = 0
      · subst hm; rfl
      · rw [decide_eq_false (by omega), eq_comm, beq_eq_false_iff_ne]; omega
    have HD := hid hd
    have HX := hid (show RKv ((w.setCell ⟨x, 3, none⟩ (.int .i64 (m : Int))).setCell ⟨x, 4, none⟩ (.bool ((m : Int) == 0))) x (Dk.op ⟨b, kept, size, m + 1, false⟩) v ∧ XStep w ((w.setCell ⟨x, 3, none⟩ (.int .i64 (m : Int))).setCell ⟨x, 4, none⟩ (.bool ((m : Int) == 0))) x v v from
      ⟨by have := (HK.out.setLeft m).setGone ((m : Int) == 0); rw [← hd] at this ⊢; exact this, (XStep.set _ _ _ _ _).trans (XStep.set _ _ _ _ _)⟩)
    clear hd
    go_enter Try.func49, Try.ntmps49
    go_wp2
    go_ret
    exact ⟨by rw [HD.out]; rfl, HX.out⟩
set_option maxRecDepth 100000 in
set_option maxHeartbeats 2000000 in
theorem xAppend_v (x : Nat) (s : Dk) (ao : Option Addr) (cap : Nat) (u : Value) (l : List UInt8) (w : World) (hv : RKv w x s (.slice ao s.b.length cap)) (hok : s.Ok) (hu : Reads w u (B l)) (hll : l.length ≤ 140737488355328) :
    Calls Try.prog 28 #[.pointer (some ⟨x, 0, none⟩), u] w (XR w x (.slice ao s.b.length cap) (s.app l)) := by
  obtain ⟨i0, hi, hz0, hz1, hz2⟩ := info_parts Try.infoByte
  have HR := hid hv
  have HV := hid hv
  have HU := hid hu
  have c0 := hv.c0
  have c2 := hv.c2
  have c4 := hv.c4
  have hk2 := hok.len
  have hk3 := hok.size
  have hk4 := hok.left
  obtain ⟨uo, ucap, rfl, hcap, _, _⟩ := hu
  rw [B_length] at hcap HU ⊢
  clear hv hok
  cases hg : s.gone with
  | true =>
    rw [hg] at c4
    have HE := hid (show s.app l = (18, s) by rw [Dk.app, if_pos hg])
    clear hg
    go_enter Try.func28, Try.ntmps28
    go_wp2_with fail
    go_ret
    exact ⟨_, by rw [HE.out]; rfl, by rw [HE.out]; exact HR.out, XStep.refl _ _ _⟩
  | false =>
  rw [hg] at c4
  have HG := hid hg
  clear hg
  by_cases h1 : s.size - s.b.length < l.length
  · have h1' : (s.size : Int) - (s.b.length : Int) < (l.length : Int) := by omega
    have HE := hid (show s.app l = (19, s) by rw [Dk.app, if_neg (by rw [HG.out]; simp), if_pos h1])
    clear h1
    go_enter Try.func28, Try.ntmps28
    go_wp2_with fail
    go_quiet (fail)
    go_wp2_with fail
    go_ret
    exact ⟨_, by rw [HE.out]; rfl, by rw [HE.out]; exact HR.out.later (belowDrewN (Below.refl w.heap.size w) nq), XStep.of_below (belowDrewN (Below.refl w.heap.size w) nq) _ _⟩
  have h1' : ¬ (s.size : Int) - (s.b.length : Int) < (l.length : Int) := by omega
  have HLE := hid h1
  clear h1
  go_enter Try.func28, Try.ntmps28
  go_wp2_with fail
  go_quiet (fail)
  have HVq := hid (HV.out.drewN nq)
  have HUq := hid (HU.out.later (belowDrewN (Below.refl w.heap.size w) nq))
  have Hbq := hid (XStep.of_below (belowDrewN (Below.refl w.heap.size w) nq) x (.slice ao s.b.length cap))
  clear HV HU c0 c2 c4
  generalize w.drewN nq = w1 at *
  have c0 := HVq.out.c0
  have f0 := HVq.out.blk.frozen 0
  go_wp2_with (at_builtin; go_must (refine wpList_append_keep rfl _ _ 37 37 rfl 5 i0 (.int .u8 0) Try.underlying37 hi hz0 hz1 hz2 rfl (x + 1) ao s.b.length cap (B s.b) rfl HVq.out.has HVq.out.lt _ l.length (B l) rfl (Src.ofBytes _ Try.underlying37 rfl HUq.out) (by have := HLE.out; omega) ?_); go_must (intro v2 w2 hH2 hb2 hk2' hn2'; obtain ⟨a2, k2, rfl⟩ := hH2.form; have HX := hid (show ∀ w3, w3 = w2.setCell ⟨x, 0, none⟩ (.slice a2 (s.b.length + l.length) k2) → RKv w3 x ⟨s.b ++ l, s.kept, s.size, s.left, s.gone⟩ (.slice a2 (s.b.length + l.length) k2) ∧ XStep w w3 x (.slice ao s.b.length cap) (.slice a2 (s.b.length + l.length) k2) from fun w3 e => by rw [e]; exact ⟨HVq.out.setB hb2 (by rw [B_append]; exact hH2), Hbq.out.trans (XStep.grew hb2 hk2' hn2')⟩); replace c0 : w2.cell? ⟨x, 0, none⟩ = some (.slice ao s.b.length cap) := (HVq.out.blk.kept (hb2.block x (Nat.lt_succ_self x))).cell rfl; replace f0 : w2.frozen? ⟨x, 0, none⟩ = false := (HVq.out.blk.kept (hb2.block x (Nat.lt_succ_self x))).frozen 0; clear hH2 hb2 hk2' hn2'))
  obtain ⟨w3, hw3⟩ : ∃ w3, w3 = w2.setCell ⟨x, 0, none⟩ (.slice a2 (s.b.length + l.length) k2) := ⟨_, rfl⟩
  rw [← hw3]
  have HX3 := hid (HX.out _ hw3)
  clear hw3 HX c0 f0 HVq HUq
  refine (xOp_any x ⟨s.b ++ l, s.kept, s.size, s.left, s.gone⟩ HG.out hk4 _ _ HX3.out.1).mono ?_
  rintro _ w4 ⟨rfl, hD, ho⟩
  have HD := hid hD
  have Ho := hid (HX3.out.2.trans ho)
  clear hD ho HX3
  simp only
  by_cases h2 : s.left = 1
  · have HE := hid (show s.app l = (18, ⟨s.b ++ l, s.kept, s.size, s.left - 1, decide (s.left = 1)⟩) by rw [Dk.app, if_neg (by rw [HG.out]; simp), if_neg HLE.out, if_pos h2, h2]; rfl)
    rw [decide_eq_true h2]
    clear h2
    go_wp2_with fail
    go_ret
    exact ⟨_, by rw [HE.out]; rfl, by rw [HE.out]; exact HD.out, Ho.out⟩
  have HE := hid (show s.app l = (0, ⟨s.b ++ l, s.kept, s.size, s.left - 1, decide (s.left = 1)⟩) by rw [Dk.app, if_neg (by rw [HG.out]; simp), if_neg HLE.out, if_neg h2, decide_eq_false h2])
  rw [decide_eq_false h2]
  clear h2
  go_wp2_with fail
  go_ret
  exact ⟨_, by rw [HE.out]; rfl, by rw [HE.out]; exact HD.out, Ho.out⟩

theorem xAppend_any (x : Nat) (s : Dk) (ao : Option Addr) (cap : Nat) (u : Value) (l : List UInt8) (w : World) (hv : RKv w x s (.slice ao s.b.length cap)) (hok : s.Ok) (hu : Reads w u (B l)) (hll : l.length ≤ 140737488355328) :
    Calls Try.prog 28 #[.pointer (some ⟨x, 0, none⟩), u] w fun e w' => e = .returned (.int .i64 (s.app l).1) ∧ RK w' x (s.app l).2 ∧ Below x w w' ∧ ∀ k, k < w.heap.size → k ≠ x → ao ≠ some ⟨k, 0, none⟩ → w'.heap[k]? = w.heap[k]? :=
  (xAppend_v x s ao cap u l w hv hok hu hll).mono fun _ _ ⟨_, h1, h2, h3⟩ => ⟨h1, h2.shut (s.app_ok hok l), h3.below hv, fun k h4 h5 h6 => h3.block k h4 h5 (fun ⟨n, c, e⟩ => h6 (by injection e))⟩

set_option maxRecDepth 100000 in
set_option maxHeartbeats 2000000 in
theorem xSync_v (x : Nat) (s : Dk) (ao : Option Addr) (cap : Nat) (w : World) (hv : RKv w x s (.slice ao s.b.length cap)) (hok : s.Ok) :
    Calls Try.prog 40 #[.pointer (some ⟨x, 0, none⟩)] w fun e w' => e = .returned (.int .i64 s.sync.1) ∧ RKv w' x s.sync.2 (.slice ao s.b.length cap) ∧ XStep w w' x (.slice ao s.b.length cap) (.slice ao s.b.length cap) := by
  have HV := hid hv
  have c4 := hv.c4
  have hk4 := hok.left
  clear hv hok
  cases hg : s.gone with
  | true =>
    rw [hg] at c4
    have HE := hid (show s.sync = (18, s) by rw [Dk.sync, Dk.cut, if_pos hg])
    clear hg
    go_enter Try.func40, Try.ntmps40
    go_wp2_with fail
    go_ret
    exact ⟨by rw [HE.out]; rfl, by rw [HE.out]; exact HV.out, XStep.refl _ _ _⟩
  | false =>
  rw [hg] at c4
  have HG := hid hg
  clear hg
  go_enter Try.func40, Try.ntmps40
  go_wp2_with fail
  refine (xOp_any x s HG.out hk4 _ _ HV.out).mono ?_
  rintro _ w2 ⟨rfl, hD, ho⟩
  have HD := hid hD
  have Ho := hid ho
  clear hD ho HV c4
  by_cases h2 : s.left = 1
  · have HE := hid (show s.sync = (18, ⟨s.b, s.kept, s.size, s.left - 1, decide (s.left = 1)⟩) by rw [Dk.sync, Dk.cut, if_neg (by rw [HG.out]; simp), if_neg (by omega), if_pos h2, h2]; rfl)
    rw [decide_eq_true h2]
    clear h2
    go_wp2_with fail
    go_ret
    exact ⟨by rw [HE.out]; rfl, by rw [HE.out]; exact HD.out, Ho.out⟩
  have HE := hid (show s.sync = (0, ⟨s.b, s.b.length, s.size, s.left - 1, decide (s.left = 1)⟩) by rw [Dk.sync, Dk.cut, if_neg (by rw [HG.out]; simp), if_neg (by omega), if_neg h2, decide_eq_false h2, Int.toNat_natCast, List.take_length])
  rw [decide_eq_false h2]
  clear h2
  have c0 : w2.cell? ⟨x, 0, none⟩ = some (.slice ao s.b.length cap) := HD.out.c0
  have c1 : w2.cell? ⟨x, 1, none⟩ = some (.int .i64 s.kept) := HD.out.c1
  have f1 := HD.out.blk.frozen 1
  have HX := hid (show RKv (w2.setCell ⟨x, 1, none⟩ (.int .i64 (s.b.length : Int))) x ⟨s.b, s.b.length, s.size, s.left - 1, decide (s.left = 1)⟩ (.slice ao s.b.length cap) ∧ XStep w (w2.setCell ⟨x, 1, none⟩ (.int .i64 (s.b.length : Int))) x (.slice ao s.b.length cap) (.slice ao s.b.length cap) from ⟨HD.out.setKept s.b.length, Ho.out.trans (XStep.set _ _ _ _ _)⟩)
  clear HD Ho
  go_wp2_with fail
  go_ret
  exact ⟨by rw [HE.out]; rfl, by rw [HE.out]; exact HX.out.1, HX.out.2⟩

theorem xSync_any (x : Nat) (s : Dk) (w : World) (h : RK w x s) :
    Calls Try.prog 40 #[.pointer (some ⟨x, 0, none⟩)] w fun e w' => e = .returned (.int .i64 s.sync.1) ∧ RK w' x s.sync.2 ∧ Below x w w' := by
  obtain ⟨ao, cap, hv, _, _⟩ := h.opened
  exact (xSync_v x s ao cap w hv h.ok).mono fun _ _ ⟨h1, h2, h3⟩ => ⟨h1, h2.shut (s.cut_ok h.ok _), h3.below hv⟩

set_option maxRecDepth 100000 in
set_option maxHeartbeats 2000000 in
theorem xCut_v (x : Nat) (s : Dk) (n : Int) (ao : Option Addr) (cap : Nat) (hc1 : s.b.length ≤ cap) (hc2 : cap ≤ maxLen) (w : World) (hv : RKv w x s (.slice ao s.b.length cap)) (hok : s.Ok) :
    Calls Try.prog 35 #[.pointer (some ⟨x, 0, none⟩), .int .i64 n] w (XR w x (.slice ao s.b.length cap) (s.cut n)) := by
  obtain ⟨i0, hi, hz0, hz1, hz2⟩ := info_parts Try.infoByte
  have HV := hid hv
  have c0 := hv.c0
  have c4 := hv.c4
  have hk2 := hok.len
  have hk3 := hok.size
  have hk4 := hok.left
  clear hv hok
  cases hg : s.gone with
  | true =>
    rw [hg] at c4
    have HE := hid (show s.cut n = (18, s) by rw [Dk.cut, if_pos hg])
    clear hg
    go_enter Try.func35, Try.ntmps35
    go_wp2_with fail
    go_ret
    exact ⟨_, by rw [HE.out]; rfl, by rw [HE.out]; exact HV.out, XStep.refl _ _ _⟩
  | false =>
  rw [hg] at c4
  have HG := hid hg
  clear hg
  by_cases h0 : n < 0
  · have HE := hid (show s.cut n = (1, s) by rw [Dk.cut, if_neg (by rw [HG.out]; simp), if_pos (Or.inl h0)])
    go_enter Try.func35, Try.ntmps35
    go_wp2_with fail
    go_ret
    exact ⟨_, by rw [HE.out]; rfl, by rw [HE.out]; exact HV.out, XStep.refl _ _ _⟩
  by_cases h1 : (s.b.length : Int) < n
  · have HE := hid (show s.cut n = (1, s) by rw [Dk.cut, if_neg (by rw [HG.out]; simp), if_pos (Or.inr h1)])
    go_enter Try.func35, Try.ntmps35
    go_wp2_with fail
    go_ret
    exact ⟨_, by rw [HE.out]; rfl, by rw [HE.out]; exact HV.out, XStep.refl _ _ _⟩
  obtain ⟨m, rfl⟩ : ∃ m : Nat, n = (m : Int) := ⟨n.toNat, by omega⟩
  have hm : m ≤ s.b.length := by omega
  go_enter Try.func35, Try.ntmps35
  go_wp2_with fail
  refine (xOp_any x s HG.out hk4 _ _ HV.out).mono ?_
  rintro _ w2 ⟨rfl, hD, ho⟩
  have HD := hid hD
  have Ho := hid ho
  clear hD ho HV c0 c4
  by_cases h2 : s.left = 1
  · have HE := hid (show s.cut (m : Int) = (18, ⟨s.b, s.kept, s.size, s.left - 1, decide (s.left = 1)⟩) by rw [Dk.cut, if_neg (by rw [HG.out]; simp), if_neg (by omega), if_pos h2, h2]; rfl)
    rw [decide_eq_true h2]
    clear h2
    go_wp2_with fail
    go_ret
    exact ⟨_, by rw [HE.out]; rfl, by rw [HE.out]; exact HD.out, Ho.out⟩
  have HE := hid (show s.cut (m : Int) = (0, ⟨s.b.take m, m, s.size, s.left - 1, decide (s.left = 1)⟩) by rw [Dk.cut, if_neg (by rw [HG.out]; simp), if_neg (by omega), if_neg h2, decide_eq_false h2, Int.toNat_natCast])
  rw [decide_eq_false h2]
  clear h2
  have c0 : w2.cell? ⟨x, 0, none⟩ = some (.slice ao s.b.length cap) := HD.out.c0
  obtain ⟨p, c, hpc, hcut, hrd⟩ := cut_low ao s.b.length cap m s.b rfl hm hc1 hc2
  have HRD := hid hrd
  have HLT := hid HD.out.lt
  have hlt := HD.out.lt
  have HZ := hid (show w2.heap.size ≤ (w2.alloc (.cells #[] 5)).heap.size by simp)
  have HVA := hid (HD.out.later ((Below.refl w2.heap.size w2).alloc (Nat.le_refl _) (.cells #[] 5)))
  have HbA := hid ((Below.refl w2.heap.size w2).alloc (Nat.le_refl _) (.cells #[] 5))
  clear hrd
  go_wp2_with (at_builtin; go_must (refine wpList_append_any rfl _ _ 37 37 rfl 5 i0 (.int .u8 0) Try.underlying37 hi hz0 hz1 hz2 rfl w2.heap.size _ 0 [] rfl (.inr ⟨w2.heap.size, 0, rfl, Nat.le_refl _, Owns.empty _ _⟩) HZ.out _ m (B (s.b.take m)) rfl (Src.ofBytes _ Try.underlying37 (by rw [List.length_take]; omega) (HRD.out _ HVA.out.reads)) (by omega) ?_); go_must (intro v3 w3 hH3 hb3; rw [List.nil_append, Nat.zero_add] at hH3; obtain ⟨a3, k3, rfl⟩ := hH3.form; have HX := hid (show ∀ w4, w4 = (w3.setCell ⟨x, 0, none⟩ (.slice a3 m k3)).setCell ⟨x, 1, none⟩ (.int .i64 (m : Int)) → RKv w4 x ⟨s.b.take m, m, s.size, s.left - 1, decide (s.left = 1)⟩ (.slice a3 m k3) ∧ XStep w w4 x (.slice ao s.b.length cap) (.slice a3 m k3) from fun w4 e => by rw [e]; exact ⟨(HVA.out.setB (hb3.mono HLT.out) (hH3.mono HLT.out)).setKept m, Ho.out.trans ((XStep.put (HbA.out.trans hb3) hH3 x 0 _).trans (XStep.set _ _ _ _ _))⟩); have HB3 := HVA.out.blk.kept (hb3.block x HLT.out); replace c0 : w3.cell? ⟨x, 0, none⟩ = some (.slice ao s.b.length cap) := HB3.cell rfl; have c1 : w3.cell? ⟨x, 1, none⟩ = some (.int .i64 s.kept) := HB3.cell rfl; have f0 : w3.frozen? ⟨x, 0, none⟩ = false := HB3.frozen 0; have f1 : w3.frozen? ⟨x, 1, none⟩ = false := HB3.frozen 1; clear hH3 hb3 HB3))
  obtain ⟨w4, hw4⟩ : ∃ w4, w4 = (w3.setCell ⟨x, 0, none⟩ (.slice a3 m k3)).setCell ⟨x, 1, none⟩ (.int .i64 (m : Int)) := ⟨_, rfl⟩
  rw [← hw4]
  have HX4 := hid (HX.out _ hw4)
  go_ret
  exact ⟨_, by rw [HE.out]; rfl, by rw [HE.out]; exact HX4.out.1, HX4.out.2⟩

theorem xCut_any (x : Nat) (s : Dk) (n : Int) (w : World) (h : RK w x s) :
    Calls Try.prog 35 #[.pointer (some ⟨x, 0, none⟩), .int .i64 n] w fun e w' => e = .returned (.int .i64 (s.cut n).1) ∧ RK w' x (s.cut n).2 ∧ Below x w w' := by
  obtain ⟨ao, cap, hv, hc1, hc2⟩ := h.opened
  exact (xCut_v x s n ao cap hc1 hc2 w hv h.ok).mono fun _ _ ⟨_, h1, h2, h3⟩ => ⟨h1, h2.shut (s.cut_ok h.ok n), h3.below hv⟩

set_option maxRecDepth 100000 in
set_option maxHeartbeats 1000000 in
theorem xRead_any (x : Nat) (s : Dk) (w : World) (h : RK w x s) : Calls Try.prog 32 #[.pointer (some ⟨x, 0, none⟩)] w (ReadR s w) := by
  obtain ⟨i0, hi, hz0, hz1, hz2⟩ := info_parts Try.infoByte
  have hok := h.ok
  obtain ⟨ao, cap, hv, hc1, hc2⟩ := h.opened
  have HV := hid hv
  have c0 := hv.c0
  have c4 := hv.c4
  have hk2 := hok.len
  have hk3 := hok.size
  clear h hv hok
  cases hg : s.gone with
  | true =>
    rw [hg] at c4
    have HE := hid (show s.read = ([], 18) by rw [Dk.read, if_pos hg])
    clear hg
    go_enter Try.func32, Try.ntmps32
    go_wp2_with fail
    go_ret2
    exact ⟨.slice none 0 0, by rw [HE.out]; rfl, by rw [HE.out]; exact Has.nil _ _ _, Below.refl _ _⟩
  | false =>
    rw [hg] at c4
    have HE := hid (show s.read = (s.b, 0) by rw [Dk.read, hg, if_neg (by simp)])
    clear hg
    have HRD := hid (HV.out.later ((Below.refl w.heap.size w).alloc (Nat.le_refl _) (.cells #[] 5))).reads
    have HbA := hid (show Below w.heap.size w (w.alloc (.cells #[] 5)) from (Below.refl _ _).alloc (Nat.le_refl _) _)
    have hlt := HV.out.lt
    clear HV
    go_enter Try.func32, Try.ntmps32
    go_wp2_with (at_builtin; go_must (refine wpList_append_any rfl _ _ 37 37 rfl 5 i0 (.int .u8 0) Try.underlying37 hi hz0 hz1 hz2 rfl w.heap.size _ 0 [] rfl (.inr ⟨w.heap.size, 0, rfl, Nat.le_refl _, Owns.empty _ _⟩) HbA.out.size _ s.b.length (B s.b) rfl (Src.ofBytes _ Try.underlying37 rfl HRD.out) (by omega) ?_); go_must (intro v3 w3 hH3 hb3; rw [List.nil_append, Nat.zero_add] at hH3; have HH3 := hid hH3; have Hb3 := hid (HbA.out.trans hb3); clear hH3 hb3))
    go_ret2
    exact ⟨v3, by rw [HE.out]; rfl, by rw [HE.out]; exact HH3.out, Hb3.out⟩
end Go.Proofs.Ytifdoneffnfogaa
