/- A log of the program and one of the second say, side by side (chapter 11). -/
import Derived.Test.YtifdoneffnfogaaQ11b
import Derived.Test.YtifdoneffnfogaaPDisk
import Derived.Test.YtifdoneffnfogaaYApp
namespace Go.Proofs.Ytifdoneffnfogaa
open Go.RowKit
set_option linter.unusedSimpArgs false
set_option linter.unusedVariables false

/-- The second say's disk in x, its slice told, its bytes in none of the blocks of P. -/
structure XV (w : World) (x : Nat) (t : Dk) (ao : Option Addr) (cap : Nat) (P : Nat → Prop) : Prop where
  rv : RKv w x t (.slice ao t.b.length cap)
  ok : t.Ok
  c1 : t.b.length ≤ cap
  c2 : cap ≤ maxLen
  ap : ∀ j, Bk (.slice ao t.b.length cap) j → ¬ P j
section
variable {w w' : World} {x : Nat} {t : Dk} {ao : Option Addr} {cap : Nat} {P : Nat → Prop}
theorem RKv.kept2 {s : Dk} {v : Value} (h : RKv w x s v) (hx : w'.heap[x]? = w.heap[x]?) (hb : ∀ k, Bk v k → w'.heap[k]? = w.heap[k]?) : RKv w' x s v := by
  refine ⟨h.blk.kept hx, ?_⟩
  rcases h.has with h1 | ⟨g, c, e, h1, h2⟩
  · exact .inl h1
  · exact .inr ⟨g, c, e, h1, h2.kept (hb g ⟨_, c, e⟩)⟩
theorem XV.kept (h : XV w x t ao cap P) (hx : w'.heap[x]? = w.heap[x]?) (hk : ∀ k, k < w.heap.size → ¬ P k → w'.heap[k]? = w.heap[k]?) : XV w' x t ao cap P :=
  ⟨h.rv.kept2 hx (fun k hb => hk k (h.rv.bk hb).2 (h.ap k hb)), h.ok, h.c1, h.c2, h.ap⟩
theorem XV.later (h : XV w x t ao cap P) (hb : Below w.heap.size w w') : XV w' x t ao cap P := ⟨h.rv.later hb, h.ok, h.c1, h.c2, h.ap⟩
/-- Behind a call of the second say's. -/
theorem XV.step {t' : Dk} {v' : Value} (h : XV w x t ao cap P) (hv : RKv w' x t' v') (ok : t'.Ok) (hP : ∀ k, P k → k < w.heap.size) (hs : ∀ k, Bk v' k → Bk (.slice ao t.b.length cap) k ∨ w.heap.size ≤ k) : ∃ ao' cap', XV w' x t' ao' cap' P := by
  have hap : ∀ k, Bk v' k → ¬ P k := fun k hk hp => (hs k hk).elim (fun h1 => h.ap k h1 hp) (fun h1 => by have := hP k hp; omega)
  obtain ⟨ao', cap', e⟩ := hv.has.form
  subst e
  refine ⟨ao', cap', hv, ok, ?_, hv.has.capMax, hap⟩
  rcases hv.has with ⟨e, h2, _⟩ | ⟨g, c, e, _, h3⟩
  · omega
  · injection e with _ _ e3
    rw [e3]; exact h3.2.1
end

/-- Both logs: the program's (s, n, k), the second say's (t, m, l). -/
structure PL (L : Nat) (w w1 : World) (d r q x p : Nat) (s : Dk) (n k : Nat) (t : Dk) (m l : Nat) : Prop where
  ld : LD L w w1 d r q s n k
  yl : YL w1 p x m l
  xv : ∃ ao cap, XV w1 x t ao cap (fun j => j = d ∨ j = r ∨ j = q ∨ j = p)
  lx : L ≤ x
  lp : L ≤ p
  dx : d < x ∧ r < x
  ap : x ≠ q ∧ p ≠ d ∧ p ≠ r ∧ p ≠ q ∧ p ≠ x
section
variable {L : Nat} {w w1 w2 w3 : World} {d r q x p : Nat} {s s' : Dk} {n k n' k' : Nat} {t t' : Dk} {m l m' l' : Nat}
theorem PL.later (h : PL L w w1 d r q x p s n k t m l) (hb : Below w1.heap.size w1 w2) : PL L w w2 d r q x p s n k t m l := by
  obtain ⟨ao, cap, hx⟩ := h.xv
  exact ⟨h.ld.later hb, Blk.later h.yl hb, ⟨ao, cap, hx.later hb⟩, h.lx, h.lp, h.dx, h.ap⟩
/-- The program's side did something. -/
theorem PL.stepK (h : PL L w w1 d r q x p s n k t m l) (hL : LD L w w2 d r q s' n' k') (ho : ∀ j, j < w1.heap.size → j ≠ d → j ≠ r → j ≠ q → w2.heap[j]? = w1.heap[j]?) : PL L w w2 d r q x p s' n' k' t m l := by
  obtain ⟨ao, cap, hx⟩ := h.xv
  refine ⟨hL, Blk.kept h.yl (ho p (Blk.lt h.yl) h.ap.2.1 h.ap.2.2.1 h.ap.2.2.2.1), ⟨ao, cap, hx.kept (ho x hx.rv.lt (by have := h.dx; omega) (by have := h.dx; omega) h.ap.1) fun j hj hP => ho j hj (fun e => hP (.inl e)) (fun e => hP (.inr (.inl e))) (fun e => hP (.inr (.inr (.inl e))))⟩, h.lx, h.lp, h.dx, h.ap⟩
/-- The second say's side did something. -/
theorem PL.stepY {ao : Option Addr} {cap : Nat} {v' : Value} (h : PL L w w1 d r q x p s n k t m l) (hx : XV w1 x t ao cap (fun j => j = d ∨ j = r ∨ j = q ∨ j = p)) (hv : RKv w2 x t' v') (ok : t'.Ok) (hy : YL w2 p x m' l') (hs : YStep w1 w2 x p (.slice ao t.b.length cap) v') : PL L w w2 d r q x p s n k t' m' l' := by
  have hq := h.ld.lb.lt
  have hd := h.ld.kd.lt
  have hp := Blk.lt h.yl
  have kept : ∀ j, j < w1.heap.size → (j = d ∨ j = r ∨ j = q) → w2.heap[j]? = w1.heap[j]? := fun j h1 h2 => hs.block j h1
    (fun e => by have := h.dx; have := h.ap.1; subst e; omega) (fun e => by have := h.ap; subst e; omega) (fun h3 => hx.ap j h3 (by rcases h2 with h2 | h2 | h2 <;> simp [h2]))
  have hbel : Below L w w2 := ⟨hs.os.trans h.ld.kd.bel.os, hs.tape.trans h.ld.kd.bel.tape, hs.output.trans h.ld.kd.bel.output, Nat.le_trans h.ld.kd.bel.size hs.size, fun j hj => by
    rw [hs.block j (by have := h.ld.kd.le; omega) (by have := h.lx; omega) (by have := h.lp; omega) (fun h3 => by have := (hx.rv.bk h3).1; have := h.lx; omega), h.ld.kd.bel.block j hj]⟩
  obtain ⟨ao', cap', hx'⟩ := hx.step hv ok (fun j hj => by rcases hj with e | e | e | e <;> subst e <;> omega) hs.fresh
  exact ⟨⟨⟨h.ld.kd.dk.kept (kept d hd.1 (.inl rfl)) (kept r hd.2 (.inr (.inl rfl))), hbel, Nat.le_trans h.ld.kd.le hs.size, h.ld.kd.d, h.ld.kd.r⟩, h.ld.lb.kept (kept q hq (.inr (.inr rfl))), h.ld.lq, h.ld.ne⟩, hy, ⟨ao', cap', hx'⟩, h.lx, h.lp, h.dx, h.ap⟩
/-- The program's side opened a log anew. -/
theorem PL.newK {q2 : Nat} (h : PL L w w1 d r q x p s n k t m l) (hL : LD L w w2 d r q2 s' n' k') (ho : Only w1 w2 d r) (hq2 : w1.heap.size ≤ q2) : PL L w w2 d r q2 x p s' n' k' t m l := by
  obtain ⟨ao, cap, hx⟩ := h.xv
  have hxl := hx.rv.lt
  have hpl := Blk.lt h.yl
  have hdx := h.dx
  exact ⟨hL, Blk.kept h.yl (ho.block p hpl h.ap.2.1 h.ap.2.2.1), ⟨ao, cap, ⟨hx.rv.kept2 (ho.block x hxl (by omega) (by omega)) (fun j hb => ho.block j (hx.rv.bk hb).2 (fun e => hx.ap j hb (.inl e)) (fun e => hx.ap j hb (.inr (.inl e)))), hx.ok, hx.c1, hx.c2, fun j hb hP => by
    rcases hP with e | e | e | e
    · exact hx.ap j hb (.inl e)
    · exact hx.ap j hb (.inr (.inl e))
    · have := (hx.rv.bk hb).2; omega
    · exact hx.ap j hb (.inr (.inr (.inr e)))⟩⟩, h.lx, h.lp, h.dx, ⟨by omega, h.ap.2.1, h.ap.2.2.1, by omega, h.ap.2.2.2.2⟩⟩
/-- The second say's side opened a log anew. -/
theorem PL.newY {p2 : Nat} {ao : Option Addr} {cap : Nat} {v' : Value} (h : PL L w w1 d r q x p s n k t m l) (hx : XV w1 x t ao cap (fun j => j = d ∨ j = r ∨ j = q ∨ j = p)) (hv : RKv w2 x t' v') (ok : t'.Ok) (hy : YL w2 p2 x m' l') (hs : XStep w1 w2 x (.slice ao t.b.length cap) v') (hp2 : w1.heap.size ≤ p2) : PL L w w2 d r q x p2 s n k t' m' l' := by
  have hq := h.ld.lb.lt
  have hd := h.ld.kd.lt
  have hxl := hx.rv.lt
  have hdx := h.dx
  have kept : ∀ j, j < w1.heap.size → (j = d ∨ j = r ∨ j = q) → w2.heap[j]? = w1.heap[j]? := fun j h1 h2 => hs.block j h1
    (fun e => by have := h.dx; have := h.ap.1; subst e; omega) (fun h3 => hx.ap j h3 (by rcases h2 with h2 | h2 | h2 <;> simp [h2]))
  have hbel : Below L w w2 := h.ld.kd.bel.trans ((hs.below hx.rv).mono h.lx)
  obtain ⟨ao', cap', e⟩ := hv.has.form
  subst e
  refine ⟨⟨⟨h.ld.kd.dk.kept (kept d hd.1 (.inl rfl)) (kept r hd.2 (.inr (.inl rfl))), hbel, Nat.le_trans h.ld.kd.le hs.size, h.ld.kd.d, h.ld.kd.r⟩, h.ld.lb.kept (kept q hq (.inr (.inr rfl))), h.ld.lq, h.ld.ne⟩, hy, ⟨ao', cap', ⟨hv, ok, ?_, hv.has.capMax, fun j hb hP => ?_⟩⟩, h.lx, Nat.le_trans h.ld.kd.le hp2, h.dx, ⟨h.ap.1, by omega, by omega, by omega, by omega⟩⟩
  · rcases hv.has with ⟨e, h2, _⟩ | ⟨g, c, e, _, h3⟩
    · omega
    · injection e with _ _ e3
      rw [e3]; exact h3.2.1
  · have hold : ∀ j', j' < w1.heap.size → (j' = d ∨ j' = r ∨ j' = q) → j = j' → False := fun j' h1 h2 e => by
      subst e
      rcases hs.fresh j hb with h3 | h3
      · exact hx.ap j h3 (by rcases h2 with h2 | h2 | h2 <;> simp [h2])
      · omega
    rcases hP with e | e | e | e
    · exact hold d hd.1 (.inl rfl) e
    · exact hold r hd.2 (.inr (.inl rfl)) e
    · exact hold q hq (.inr (.inr rfl)) e
    · obtain ⟨n0, c0, e0⟩ := hb
      rcases hv.has with ⟨e5, _⟩ | ⟨g, c, e5, _, h6⟩
      · rw [e5] at e0; cases e0
      · rw [e5] at e0
        injection e0 with e0
        injection e0 with e0
        injection e0 with e0
        subst e0
        subst e
        obtain ⟨_, _, _, cur, hg, _⟩ := h6
        have hy' : w2.heap[g]? = _ := hy
        rw [hg] at hy'
        injection hy' with hy'
        injection hy' with _ hy'
        exact absurd hy' (by decide)
theorem openS_ok {s : Dk} (h : s.Ok) : (openS s).2.2.Ok := by
  rw [openS]
  split
  · exact h
  · split <;> exact s.cut_ok h _
theorem appL_ok {s : Dk} (h : s.Ok) (n : Nat) (r : List UInt8) : (appL s n r).2.2.Ok := by
  rw [appL]
  split
  · exact h
  · exact s.app_ok h _
theorem syncL_ok {s : Dk} (h : s.Ok) (n k : Nat) : (syncL s n k).2.2.Ok := s.cut_ok h _
/-- Both disks new, both logs opened. -/
theorem PL.start {ao : Option Addr} {cap : Nat} {v' : Value} (h : LD L w w1 d r q s n k) (hx : XV w1 x t ao cap (fun j => j = d ∨ j = r ∨ j = q)) (hv : RKv w2 x s v') (hy : YL w2 p x m l) (hs : XStep w1 w2 x (.slice ao t.b.length cap) v') (hp : w1.heap.size ≤ p) (hL : L ≤ x) (hd : d < x ∧ r < x) (hq : x ≠ q) (ok : s.Ok) : PL L w w2 d r q x p s n k s m l := by
  have hqt := h.lb.lt
  have hdt := h.kd.lt
  have hxl := hx.rv.lt
  have kept : ∀ j, j < w1.heap.size → (j = d ∨ j = r ∨ j = q) → w2.heap[j]? = w1.heap[j]? := fun j h1 h2 => hs.block j h1
    (fun e => by subst e; omega) (fun h3 => hx.ap j h3 h2)
  have hbel : Below L w w2 := h.kd.bel.trans ((hs.below hx.rv).mono hL)
  obtain ⟨ao', cap', e⟩ := hv.has.form
  subst e
  refine ⟨⟨⟨h.kd.dk.kept (kept d hdt.1 (.inl rfl)) (kept r hdt.2 (.inr (.inl rfl))), hbel, Nat.le_trans h.kd.le hs.size, h.kd.d, h.kd.r⟩, h.lb.kept (kept q hqt (.inr (.inr rfl))), h.lq, h.ne⟩, hy, ⟨ao', cap', ⟨hv, ok, ?_, hv.has.capMax, fun j hb hP => ?_⟩⟩, hL, Nat.le_trans h.kd.le hp, hd, ⟨hq, by omega, by omega, by omega, by omega⟩⟩
  · rcases hv.has with ⟨e, h2, _⟩ | ⟨g, c, e, _, h3⟩
    · omega
    · injection e with _ _ e3
      rw [e3]; exact h3.2.1
  · have hold : ∀ j', j' < w1.heap.size → (j' = d ∨ j' = r ∨ j' = q) → j = j' → False := fun j' h1 h2 e => by
      subst e
      rcases hs.fresh j hb with h3 | h3
      · exact hx.ap j h3 h2
      · omega
    rcases hP with e | e | e | e
    · exact hold d hdt.1 (.inl rfl) e
    · exact hold r hdt.2 (.inr (.inl rfl)) e
    · exact hold q hqt (.inr (.inr rfl)) e
    · obtain ⟨n0, c0, e0⟩ := hb
      rcases hv.has with ⟨e5, _⟩ | ⟨g, c, e5, _, h6⟩
      · rw [e5] at e0; cases e0
      · rw [e5] at e0
        injection e0 with e0
        injection e0 with e0
        injection e0 with e0
        subst e0
        subst e
        obtain ⟨_, _, _, cur, hg, _⟩ := h6
        have hy' : w2.heap[g]? = _ := hy
        rw [hg] at hy'
        injection hy' with hy'
        injection hy' with _ hy'
        exact absurd hy' (by decide)
theorem PL.pd (h : PL L w w1 d r q x p s n k s m l) : PD L w w1 d r x s := by
  obtain ⟨ao, cap, hx⟩ := h.xv
  exact ⟨h.ld.kd, hx.rv.shut hx.ok, h.dx.1, h.dx.2⟩
theorem recs_many : ∀ (n : Nat) (b : List UInt8), b.length ≤ n → (recs b).1.length ≤ b.length
  | 0, b, h => by
    rw [recs_stop (.inl (by omega))]
    exact Nat.zero_le _
  | n + 1, b, h => by
    by_cases he : Ends b
    · rw [recs_stop he]; exact Nat.zero_le _
    · have h8 := (Ends.not he).1
      have e := recs_step he
      obtain ⟨m, hm⟩ : ∃ m, (hd b).toNat = m := ⟨_, rfl⟩
      rw [hm] at e
      have h2 := recs_many n (b.drop (8 + m)) (by rw [List.length_drop]; omega)
      obtain ⟨q, hq⟩ : ∃ q, (recs (b.drop (8 + m))).1.length = q := ⟨_, rfl⟩
      rw [hq, List.length_drop] at h2
      rw [e]
      show (recs (b.drop (8 + m))).1.length + 1 ≤ b.length
      rw [hq]
      omega

theorem openS_many (s : Dk) : (openS s).2.1.length ≤ s.b.length := by
  rw [openS]
  split
  · exact Nat.zero_le _
  · split
    · exact Nat.zero_le _
    · exact recs_many _ _ (Nat.le_refl _)
theorem appL_many (s : Dk) (n : Nat) (b : List UInt8) : (appL s n b).2.1 ≤ n + 1 := by
  rw [appL]
  split
  · exact Nat.le_succ n
  · show (if (s.app (enc b)).1 = 0 then n + 1 else n) ≤ n + 1
    split <;> omega
theorem open_up {s : Dk} (hg : s.gone = false) (hl : s.left ≠ 1) : (openS s).1 = 0 := by
  have h := recs_len s.b
  have hc : (s.cut ((recs s.b).2 : Int)).1 = 0 := by
    rw [Dk.cut, hg, if_neg (by simp), if_neg (by omega), if_neg hl]
  rw [openS, hg, if_neg (by simp)]
  rw [hc, if_neg (by simp)]
theorem open_crash (s : Dk) (z : Int) : (openS (s.crash z)).1 = 0 := open_up rfl (by show ¬ (0 : Nat) = 1; omega)
theorem ok_many {s : Dk} (h : s.Ok) : s.b.length ≤ 65536 := Nat.le_trans h.len h.size
theorem one_blk {w : World} {g : Nat} {z : Int} (h0 : 0 ≤ z) (h1 : z < 256) (h : Blk w 5 g [.int .u8 z]) : Reads w (.slice (some ⟨g, 0, none⟩) 1 1) (B [UInt8.ofNat z.toNat]) := by
  have h2 : B [UInt8.ofNat z.toNat] = [.int .u8 z] := by
    show [Value.int .u8 (UInt8.ofNat z.toNat).toNat] = _
    rw [UInt8.toNat_ofNat']
    congr 2
    omega
  rw [h2]
  have h3 : Owns w 5 g 1 1 [.int .u8 z] := ⟨rfl, Nat.le_refl _, by unfold maxLen; omega, _, h, rfl, rfl⟩
  exact h3.reads
end
end Go.Proofs.Ytifdoneffnfogaa
