/- A disk of a law's own: what its calls leave, and that all from a place on alone has changed. -/
import Derived.Test.YtifdoneffnfogabKRead
import Derived.Test.YtifdoneffnfogabNewB
namespace Go.Proofs.Ytifdoneffnfogab
open Go.RowKit
set_option linter.unusedSimpArgs false
set_option linter.unusedVariables false

/-- The disk s in the blocks d and r, which lie from L on; w1 is w but from L on. -/
structure KD (L : Nat) (w w1 : World) (d r : Nat) (s : Dk) : Prop where
  dk : DK w1 d r s
  bel : Below L w w1
  le : L ≤ w1.heap.size
  d : L ≤ d
  r : L ≤ r

section
variable {L : Nat} {w w1 w2 : World} {d r : Nat} {s s' : Dk}
theorem KD.only (h : KD L w w1 d r s) (hD : DK w2 d r s') (ho : Only w1 w2 d r) : KD L w w2 d r s' := ⟨hD, ho.below h.bel h.le h.d h.r, Nat.le_trans h.le ho.size, h.d, h.r⟩
theorem KD.later (h : KD L w w1 d r s) (hb : Below w1.heap.size w1 w2) : KD L w w2 d r s := ⟨h.dk.later hb, h.bel.trans (hb.mono h.le), Nat.le_trans h.le hb.size, h.d, h.r⟩
theorem KD.drew (h : KD L w w1 d r s) : KD L w w1.drew d r s := h.later ((Below.refl _ _).drew)
theorem KD.alloc (h : KD L w w1 d r s) (o : Obj) : KD L w (w1.alloc o) d r s := h.later ((Below.refl _ _).alloc (Nat.le_refl _) o)
/-- Another block of one's own may be written to. -/
theorem KD.setOther (h : KD L w w1 d r s) {g : Nat} (hg : L ≤ g) (hd : g ≠ d) (hr : g ≠ r) (j : Nat) (v : Value) : KD L w (w1.setCell ⟨g, j, none⟩ v) d r s :=
  ⟨h.dk.kept (heap_setCell_other _ _ _ _ (Ne.symm hd)) (heap_setCell_other _ _ _ _ (Ne.symm hr)), h.bel.setCell (p := ⟨g, j, none⟩) hg v, by simpa [World.setCell] using h.le, h.d, h.r⟩

theorem kNew_at (n : Int) (hb : Below L w w1) (hl : L ≤ w1.heap.size) : Calls Try.prog 5 #[.int .i64 n] w1 fun e w' => ∃ d r, e = .returned (.pointer (some ⟨d, 0, none⟩)) ∧ KD L w w' d r (Dk.new n) ∧ w1.heap.size ≤ d ∧ w1.heap.size ≤ r ∧ Below w1.heap.size w1 w' := by
  refine (kNew_any n w1).mono ?_
  rintro e w' ⟨d, r, he, hD, hd, hr, hb'⟩
  exact ⟨d, r, he, ⟨hD, hb.trans (hb'.mono hl), Nat.le_trans hl hb'.size, Nat.le_trans hl hd, Nat.le_trans hl hr⟩, hd, hr, hb'⟩
theorem kAppend_at (h : KD L w w1 d r s) (v : Value) (l : List UInt8) (hv : Reads w1 v (B l)) (hll : l.length ≤ 140737488355328) (x : Int) (s' : Dk) (he : s.app l = (x, s')) :
    Calls Try.prog 18 #[.pointer (some ⟨d, 0, none⟩), v] w1 fun e w' => e = .returned (.int .i64 x) ∧ KD L w w' d r s' ∧ Only w1 w' d r := by
  refine (kAppend_any d r s v l w1 h.dk hv hll).mono ?_
  rintro e w' ⟨h1, h2, h3⟩
  rw [he] at h1 h2
  exact ⟨h1, h.only h2 h3, h3⟩
theorem kCut_at (h : KD L w w1 d r s) (n : Int) (x : Int) (s' : Dk) (he : s.cut n = (x, s')) :
    Calls Try.prog 15 #[.pointer (some ⟨d, 0, none⟩), .int .i64 n] w1 fun e w' => e = .returned (.int .i64 x) ∧ KD L w w' d r s' ∧ Only w1 w' d r := by
  refine (kCut_any d r s n w1 h.dk).mono ?_
  rintro e w' ⟨h1, h2, h3⟩
  rw [he] at h1 h2
  exact ⟨h1, h.only h2 h3, h3⟩
theorem kRead_at (h : KD L w w1 d r s) (l : List UInt8) (x : Int) (n : Nat) (he : s.read = (l, x)) (hn : l.length = n) :
    Calls Try.prog 13 #[.pointer (some ⟨d, 0, none⟩)] w1 fun e w' => ∃ ao cap, e = .returned (.tuple #[.slice ao n cap, .int .i64 x]) ∧ Has w' 5 w1.heap.size (.slice ao n cap) n (B l) ∧ KD L w w' d r s ∧ Below w1.heap.size w1 w' := by
  refine (kRead_any d r s w1 h.dk).mono ?_
  rintro e w' ⟨v, h1, h2, h3⟩
  rw [he] at h1 h2
  simp only [hn] at h1 h2
  obtain ⟨ao, cap, rfl⟩ := h2.form
  exact ⟨ao, cap, h1, h2, h.later h3, h3⟩
end
theorem Has.only {w w' : World} {e : TypeId} {Bd n d r : Nat} {v : Value} {xs : List Value} (h : Has w e Bd v n xs) (ho : Only w w' d r) (hd : d < Bd) (hr : r < Bd) : Has w' e Bd v n xs := h.keptAt fun k h1 h2 => ho.block k h2 (by omega) (by omega)
theorem KD.lt {L : Nat} {w w1 : World} {d r : Nat} {s : Dk} (h : KD L w w1 d r s) : d < w1.heap.size ∧ r < w1.heap.size := ⟨h.dk.lt, h.dk.ltr⟩
/-- string(b), b what reads as bytes. -/
theorem run_strB {wx : World} {v : Value} {l : List UInt8} (h : Reads wx v (B l)) : (convert 31 9 v).run Try.prog wx = .ok (.string ⟨l.toArray⟩) wx :=
  run_string (P := Try.prog) wx 31 9 5 Try.underlying31 Try.underlying5 Try.underlying9 h
end Go.Proofs.Ytifdoneffnfogab
