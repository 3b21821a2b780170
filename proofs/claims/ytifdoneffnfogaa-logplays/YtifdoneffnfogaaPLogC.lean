/- What the calls of both logs do to both, side by side (chapter 11). -/
import Derived.Test.YtifdoneffnfogaaPLog
namespace Go.Proofs.Ytifdoneffnfogaa
open Go.RowKit
set_option linter.unusedSimpArgs false
set_option linter.unusedVariables false

section
variable {L : Nat} {w w1 w2 : World} {d r q x p : Nat} {s s' : Dk} {n k n' k' : Nat} {t : Dk} {m l : Nat}
theorem PL.only3 (h : PL L w w1 d r q x p s n k t m l) (hD : DK w2 d r s') (hB : LB w2 q d n' k') (ho : Only3 w1 w2 d r q) : PL L w w2 d r q x p s' n' k' t m l :=
  h.stepK ⟨⟨hD, ho.below h.ld.kd.bel h.ld.kd.le h.ld.kd.d h.ld.kd.r h.ld.lq, Nat.le_trans h.ld.kd.le ho.size, h.ld.kd.d, h.ld.kd.r⟩, hB, h.ld.lq, h.ld.ne⟩ ho.block
theorem PL.onlyK (h : PL L w w1 d r q x p s n k t m l) (hK : KD L w w2 d r s') (ho : Only w1 w2 d r) : PL L w w2 d r q x p s' n k t m l :=
  h.stepK (h.ld.only hK ho) fun j h1 h2 h3 _ => ho.block j h1 h2 h3
theorem lgAppend_pl (h : PL L w w1 d r q x p s n k t m l) (hn : n ≤ 1000000000) (u : Value) (b : List UInt8) (hu : Reads w1 u (B b)) (hb : b.length ≤ 1000000000) :
    Calls Try.prog 15 #[.pointer (some ⟨q, 0, none⟩), u] w1 fun e w' => e = .returned (.int .i64 (appL s n b).1) ∧ PL L w w' d r q x p (appL s n b).2.2 (appL s n b).2.1 k t m l ∧ Only3 w1 w' d r q :=
  (lgAppend_any d r q s n k hn u b w1 h.ld.kd.dk h.ld.lb h.ld.ne hu hb).mono fun _ _ ⟨h1, h2, h3, h4⟩ => ⟨h1, h.only3 h2 h3 h4, h4⟩
theorem lgSync_pl (h : PL L w w1 d r q x p s n k t m l) :
    Calls Try.prog 17 #[.pointer (some ⟨q, 0, none⟩)] w1 fun e w' => e = .returned (.int .i64 (syncL s n k).1) ∧ PL L w w' d r q x p (syncL s n k).2.2 n (syncL s n k).2.1 t m l :=
  (lgSync_any d r q s n k w1 h.ld.kd.dk h.ld.lb h.ld.ne).mono fun _ _ ⟨h1, h2, h3, h4⟩ => ⟨h1, h.only3 h2 h3 h4⟩
theorem kStop_pl (h : PL L w w1 d r q x p s n k t m l) (z : Int) (hz : z ≤ 9223372036854775807) :
    Calls Try.prog 19 #[.pointer (some ⟨d, 0, none⟩), .int .i64 z] w1 fun e w' => e = .returned (.tuple #[]) ∧ PL L w w' d r q x p (s.stop z) n k t m l :=
  (kStop_at h.ld.kd z hz _ rfl).mono fun _ _ ⟨h1, h2, h3⟩ => ⟨h1, h.onlyK h2 h3⟩
theorem kCrash_pl (h : PL L w w1 d r q x p s n k t m l) (z : Int) :
    Calls Try.prog 21 #[.pointer (some ⟨d, 0, none⟩), .int .i64 z] w1 fun e w' => e = .returned (.tuple #[]) ∧ PL L w w' d r q x p (s.crash z) n k t m l :=
  (kCrash_at h.ld.kd z _ rfl).mono fun _ _ ⟨h1, h2, h3⟩ => ⟨h1, h.onlyK h2 h3⟩
/-- What Open answers, and what lies behind it. -/
def LOpenPL (L : Nat) (w w1 : World) (d r q x p : Nat) (s : Dk) (n k : Nat) (t : Dk) (m l : Nat) (e : Ending) (w' : World) : Prop :=
  (∃ ao cap, XV w' x t ao cap (fun j => w1.heap.size ≤ j)) ∧ w1.heap.size ≤ w'.heap.size ∧
    (((openS s).1 ≠ 0 ∧ e = .returned (.tuple #[.pointer none, .slice none 0 0, .int .i64 (openS s).1]) ∧ PL L w w' d r q x p (openS s).2.2 n k t m l) ∨
     ((openS s).1 = 0 ∧ ∃ q' rv, e = .returned (.tuple #[.pointer (some ⟨q', 0, none⟩), rv, .int .i64 0]) ∧ PL L w w' d r q' x p (openS s).2.2 (openS s).2.1.length (openS s).2.1.length t m l ∧ RowsW w' w1.heap.size rv (openS s).2.1))
theorem lgOpen_pl (h : PL L w w1 d r q x p s n k t m l) : Calls Try.prog 12 #[.pointer (some ⟨d, 0, none⟩)] w1 (LOpenPL L w w1 d r q x p s n k t m l) := by
  refine (lgOpen_any d r s w1 h.ld.kd.dk).mono ?_
  rintro e w' ⟨h1, h2, h3⟩
  obtain ⟨ao, cap, hx⟩ := h.xv
  have hdx := h.dx
  have hK := h.ld.kd.only h1 h2
  refine ⟨⟨ao, cap, ⟨hx.rv.kept2 (h2.block x hx.rv.lt (by omega) (by omega)) (fun j hb => h2.block j (hx.rv.bk hb).2 (fun e => hx.ap j hb (.inl e)) (fun e => hx.ap j hb (.inr (.inl e)))), hx.ok, hx.c1, hx.c2, fun j hb hP => by have := (hx.rv.bk hb).2; omega⟩⟩, h2.size, ?_⟩
  rcases h3 with ⟨h3, h4⟩ | ⟨h3, q', rv, h4, h5, h6, h7⟩
  · exact .inl ⟨h3, h4, h.onlyK hK h2⟩
  · exact .inr ⟨h3, q', rv, h4, h.newK ⟨hK, h6, Nat.le_trans h.ld.kd.le h5, by have := h.ld.kd.lt; omega⟩ h2 h5, h7⟩
theorem XV.same {t : Dk} {ao ao2 : Option Addr} {cap cap2 : Nat} {P P2 : Nat → Prop} (h : XV w1 x t ao cap P) (h2 : XV w1 x t ao2 cap2 P2) : ao2 = ao ∧ cap2 = cap := by
  have e := h.rv.c0
  rw [h2.rv.c0] at e
  injection e with e
  injection e with e1 _ e3
  exact ⟨e1, e3⟩
/-- The second say's Open, behind the program's. -/
def YOpenPL (L : Nat) (w w1 : World) (Bd d r q x p : Nat) (s : Dk) (n k : Nat) (t : Dk) (m l : Nat) (e : Ending) (w' : World) : Prop :=
  (∀ j, Bd ≤ j → j < w1.heap.size → w'.heap[j]? = w1.heap[j]?) ∧
    (((openS t).1 ≠ 0 ∧ e = .returned (.tuple #[.pointer none, .slice none 0 0, .int .i64 (openS t).1]) ∧ PL L w w' d r q x p s n k (openS t).2.2 m l) ∨
     ((openS t).1 = 0 ∧ ∃ p' rv, e = .returned (.tuple #[.pointer (some ⟨p', 0, none⟩), rv, .int .i64 0]) ∧ PL L w w' d r q x p' s n k (openS t).2.2 (openS t).2.1.length (openS t).2.1.length ∧ RowsW w' w1.heap.size rv (openS t).2.1))
theorem yOpen_pl (h : PL L w w1 d r q x p s n k t m l) (Bd : Nat) (hB : ∃ ao cap, XV w1 x t ao cap (fun j => Bd ≤ j)) (hxB : x < Bd) : Calls Try.prog 13 #[.pointer (some ⟨x, 0, none⟩)] w1 (YOpenPL L w w1 Bd d r q x p s n k t m l) := by
  obtain ⟨ao, cap, hx⟩ := h.xv
  obtain ⟨ao2, cap2, hx2⟩ := hB
  obtain ⟨e1, e2⟩ := hx.same hx2
  subst e1 e2
  refine (yOpen_any x t _ _ hx.c1 hx.c2 w1 hx.rv hx.ok).mono ?_
  rintro e w' ⟨v', hv, hs, hc⟩
  refine ⟨fun j h1 h2 => hs.block j h2 (by omega) (fun h3 => hx2.ap j h3 h1), ?_⟩
  rcases hc with ⟨h3, h4⟩ | ⟨h3, p', rv, h4, h5, h6, h7⟩
  · exact .inl ⟨h3, h4, h.stepY hx hv (openS_ok hx.ok) (Blk.kept h.yl (hs.block p (Blk.lt h.yl) h.ap.2.2.2.2 (fun h3 => hx.ap p h3 (.inr (.inr (.inr rfl)))))) (YStep.of hs p)⟩
  · exact .inr ⟨h3, p', rv, h4, h.newY hx hv (openS_ok hx.ok) h6 hs h5, h7⟩
theorem yAppend_pl (h : PL L w w1 d r q x p s n k t m l) (hm : m ≤ 1000000000) (u : Value) (b : List UInt8) (hu : Reads w1 u (B b)) (hb : b.length ≤ 1000000000) :
    Calls Try.prog 16 #[.pointer (some ⟨p, 0, none⟩), u] w1 fun e w' => e = .returned (.int .i64 (appL t m b).1) ∧ PL L w w' d r q x p s n k (appL t m b).2.2 (appL t m b).2.1 l := by
  obtain ⟨ao, cap, hx⟩ := h.xv
  refine (yAppend_any x p t m l hm ao cap u b w1 hx.rv hx.ok h.yl ⟨h.ap.2.2.2.2, fun h3 => hx.ap p h3 (.inr (.inr (.inr rfl)))⟩ hu hb).mono ?_
  rintro e w' ⟨v', h1, h2, h3, h4⟩
  exact ⟨h1, h.stepY hx h2 (appL_ok hx.ok m b) h3 h4⟩
theorem ySync_pl (h : PL L w w1 d r q x p s n k t m l) :
    Calls Try.prog 18 #[.pointer (some ⟨p, 0, none⟩)] w1 fun e w' => e = .returned (.int .i64 (syncL t m l).1) ∧ PL L w w' d r q x p s n k (syncL t m l).2.2 m (syncL t m l).2.1 := by
  obtain ⟨ao, cap, hx⟩ := h.xv
  refine (ySync_any x p t m l ao cap w1 hx.rv hx.ok h.yl ⟨h.ap.2.2.2.2, fun h3 => hx.ap p h3 (.inr (.inr (.inr rfl)))⟩).mono ?_
  rintro e w' ⟨v', h1, h2, h3, h4⟩
  exact ⟨h1, h.stepY hx h2 (syncL_ok hx.ok m l) h3 h4⟩
theorem xStop_pl (h : PL L w w1 d r q x p s n k t m l) (z : Int) (hz : z ≤ 9223372036854775807) :
    Calls Try.prog 20 #[.pointer (some ⟨x, 0, none⟩), .int .i64 z] w1 fun e w' => e = .returned (.tuple #[]) ∧ PL L w w' d r q x p s n k (t.stop z) m l := by
  obtain ⟨ao, cap, hx⟩ := h.xv
  refine (xStop_v x t z _ w1 hx.rv).mono ?_
  rintro e w' ⟨h1, h2, h3⟩
  exact ⟨h1, h.stepY hx h2 (t.stop_ok hx.ok z hz) (Blk.kept h.yl (h3.block p (Blk.lt h.yl) h.ap.2.2.2.2 (fun h3 => hx.ap p h3 (.inr (.inr (.inr rfl)))))) (YStep.of h3 p)⟩
theorem xCrash_pl (h : PL L w w1 d r q x p s n k t m l) (z : Int) :
    Calls Try.prog 22 #[.pointer (some ⟨x, 0, none⟩), .int .i64 z] w1 fun e w' => e = .returned (.tuple #[]) ∧ PL L w w' d r q x p s n k (t.crash z) m l := by
  obtain ⟨ao, cap, hx⟩ := h.xv
  refine (xCrash_v x t z ao cap hx.c1 hx.c2 w1 hx.rv hx.ok).mono ?_
  rintro e w' ⟨v', h1, h2, h3⟩
  exact ⟨h1, h.stepY hx h2 (t.crash_ok hx.ok z) (Blk.kept h.yl (h3.block p (Blk.lt h.yl) h.ap.2.2.2.2 (fun h3 => hx.ap p h3 (.inr (.inr (.inr rfl)))))) (YStep.of h3 p)⟩
end
end Go.Proofs.Ytifdoneffnfogaa
