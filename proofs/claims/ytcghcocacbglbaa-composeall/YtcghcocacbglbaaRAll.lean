/- The contract of the second say's All, for three. -/
import Derived.Test.YtcghcocacbglbaaRTwo
import Derived.Test.YtcghcocacbglbaaCAll
namespace Go.Proofs.Ytcghcocacbglbaa
open Go.RowKit
set_option linter.unusedSimpArgs false
set_option linter.unusedVariables false

section
variable {w w' : World} {v va vb vc : Value} {o a b c : List Cp} {i u j t k : Nat}
theorem rtwo_ob (ha : Ob w va a i u) (hb : Ob w vb b u t) :
    Calls Try.prog 14 #[va, vb] w fun e w' => ∃ v', e = .returned (.tuple #[v', .int .i64 0]) ∧ Ob w' v' (twoS a b) i t ∧ Below w.heap.size w w' := by
  refine (refTwo_any va vb a b i u u t w ha hb).mono ?_
  rintro e w' ⟨_, h, hb'⟩
  obtain ⟨v', rfl, hO⟩ := h rfl
  exact ⟨v', rfl, hO, hb'⟩
theorem rtwo_bad (ha : Ob w va a i u) (hb : Ob w vb b j t) (hne : j ≠ u) :
    Calls Try.prog 14 #[va, vb] w fun e w' => e = .returned (.tuple #[.slice none 0 0, .int .i64 7]) ∧ Below w.heap.size w w' := by
  refine (refTwo_any va vb a b i u j t w ha hb).mono ?_
  rintro e w' ⟨h, _, hb'⟩
  exact ⟨h hne, hb'⟩
theorem two_formL {x y : List Cp} (hx : Good x) (hy : Good y) (h : inS y = outS x) : twoS (normS x) y = twoS x y := by
  have h1 := two_forms hx hy h
  have h2 := two_forms (norm_good hx) hy (by rw [h, out_norm _ hx])
  rw [norm_norm] at h2
  rw [← h2, h1]

/-- Where the loop of All is. -/
def AL (w wr : World) (iv vo : Value) (a b c : List Cp) (n u t k : Nat) : Prop :=
  Below w.heap.size w wr ∧ ((iv = .int .i64 0 ∧ Ob wr vo (idS n) n n) ∨ (iv = .int .i64 1 ∧ Ob wr vo (normS a) n u) ∨ (iv = .int .i64 2 ∧ Ob wr vo (twoS a b) n t) ∨ (iv = .int .i64 3 ∧ Ob wr vo (twoS (twoS a b) c) n k))

set_option maxRecDepth 100000 in
set_option maxHeartbeats 4000000 in
theorem rall3 (g n : Nat) (hn : n ≤ 120) (h0 : w.cell? ⟨g, 0, none⟩ = some va) (h1 : w.cell? ⟨g, 1, none⟩ = some vb) (h2 : w.cell? ⟨g, 2, none⟩ = some vc) (ha : Ob w va a n u) (hb : Ob w vb b u t) (hc : Ob w vc c t k) :
    Calls Try.prog 18 #[.int .i64 (n : Int), .slice (some ⟨g, 0, none⟩) 3 3] w fun e w' => ∃ v', e = .returned (.tuple #[v', .int .i64 0]) ∧ Ob w' v' (twoS (twoS a b) c) n k ∧ Below w.heap.size w w' := by
  have HA := hid ha
  have HB := hid hb
  have HC := hid hc
  have H0 := hid h0
  have H1 := hid h1
  have H2 := hid h2
  have HE0 := hid (id_two ha.good ha.ins)
  have HE1 := hid (two_formL ha.good hb.good (by rw [hb.ins, ha.outs]))
  clear ha hb hc h0 h1 h2
  have key : ∀ wr vo, Below w.heap.size w wr → Ob wr vo (idS n) n n → True := fun _ _ _ _ => trivial
  clear key
  go_enter Try.func18, Try.ntmps18
  go_upto_if 11 with fail
  go_cut [6] (fun s6 w' => AL w w' (.int .i64 0) s6 a b c n u t k)
  case first =>
    by_cases hz : n = 0
    · subst hz
      go_wp2_with fail
      go_meet
      case rel => exact ⟨Below.refl _ _, .inl ⟨rfl, id_ob 0 (by omega) (RC.nil _)⟩⟩
    · have h3 : (0 : Int) < (n : Int) := by omega
      have HZ := hid hz
      clear hz
      go_wp2_with fail
      go_meet
      case rel =>
        refine ⟨(Below.refl _ _).alloc (Nat.le_refl _) _, .inl ⟨rfl, id_ob n hn ?_⟩⟩
        rw [idS, if_neg HZ.out]
        exact (one_new w (pK n) w.heap.size (Nat.le_refl _)).reads
  case rest =>
  have HCUT := hid hcut
  clear hcut
  go_wp2_with fail
  go_loopw [6, 7] (fun vo iv wr => AL w wr iv vo a b c n u t k) (fun _ iv _ => 3 - (intOf iv).toNat)
  case atStart => exact HCUT.out
  case round =>
    clear HCUT
    obtain ⟨hbl, ⟨rfl, hO⟩ | ⟨rfl, hO⟩ | ⟨rfl, hO⟩ | ⟨rfl, hO⟩⟩ := hrel
    · have HO := hid hO
      have Hb := hid hbl
      have HX := hid (HA.out.later hbl)
      have c0 := cell_later hbl H0.out
      clear hO hbl
      go_wp2_with fail
      refine (rtwo_ob HO.out HX.out).mono ?_
      rintro _ w1 ⟨v1, rfl, ho, hb⟩
      rw [HE0.out] at ho
      have HO1 := hid ho
      have Hb1 := hid (below_seq Hb.out hb)
      clear ho hb c0
      go_wp2_with fail
      go_roundw
      case rel => exact ⟨Hb1.out, .inr (.inl ⟨rfl, HO1.out⟩)⟩
      case measure => simp [intOf]
    · have HO := hid hO
      have Hb := hid hbl
      have HX := hid (HB.out.later hbl)
      have c0 := cell_later hbl H1.out
      clear hO hbl
      go_wp2_with fail
      refine (rtwo_ob HO.out HX.out).mono ?_
      rintro _ w1 ⟨v1, rfl, ho, hb⟩
      rw [HE1.out] at ho
      have HO1 := hid ho
      have Hb1 := hid (below_seq Hb.out hb)
      clear ho hb c0
      go_wp2_with fail
      go_roundw
      case rel => exact ⟨Hb1.out, .inr (.inr (.inl ⟨rfl, HO1.out⟩))⟩
      case measure => simp [intOf]
    · have HO := hid hO
      have Hb := hid hbl
      have HX := hid (HC.out.later hbl)
      have c0 := cell_later hbl H2.out
      clear hO hbl
      go_wp2_with fail
      refine (rtwo_ob HO.out HX.out).mono ?_
      rintro _ w1 ⟨v1, rfl, ho, hb⟩
      have HO1 := hid ho
      have Hb1 := hid (below_seq Hb.out hb)
      clear ho hb c0
      go_wp2_with fail
      go_roundw
      case rel => exact ⟨Hb1.out, .inr (.inr (.inr ⟨rfl, HO1.out⟩))⟩
      case measure => simp [intOf]
    · have HO := hid hO
      have Hb := hid hbl
      clear hO hbl
      go_wp2_with fail
      go_ret2
      exact ⟨_, rfl, HO.out, Hb.out⟩
end
end Go.Proofs.Ytcghcocacbglbaa
