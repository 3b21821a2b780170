/- The contract of package invert's Op, in short, and of the laws' own function known. -/
import Derived.Test.YtbhojomgbjchkaaIOp
import Derived.Test.YtbhojomgbjchkaaOb
namespace Go.Proofs.Ytbhojomgbjchkaa
open Go.RowKit
set_option linter.unusedSimpArgs false
set_option linter.unusedVariables false

section
variable {w w' : World} {v va vb : Value} {o a b : List Cp} {i u j t : Nat}
theorem inv_ob (d : ByteArray) (h : Ob w v o i u) (hd : d.size = i) :
    Calls Try.prog 12 #[.string d, v] w fun e w' => ∃ v', e = .returned (.tuple #[v', .int .i64 0]) ∧ Ob w' v' (invS d o) u i ∧ Below w.heap.size w w' := by
  have h1 := h.ins
  have h2 := h.outs
  have h3 := h.hi
  have h4 := h.hu
  refine (iOp_any d v o w h.rc h.fit h.good (by omega) (by omega)).mono ?_
  rintro e w' ⟨_, hx, hb⟩
  obtain ⟨v', rfl, hH⟩ := hx (by omega)
  have I := inv_ua (d := d) h.good (by omega)
  exact ⟨v', rfl, ⟨hH.reads, I.good, by rw [I.ins, h2], by rw [I.outs, h1], h4, h3⟩, hb⟩
theorem inv_bad (d : ByteArray) (h : Ob w v o i u) (hd : d.size ≠ i) (hl : d.size ≤ 1099511627776) :
    Calls Try.prog 12 #[.string d, v] w fun e w' => e = .returned (.tuple #[.slice none 0 0, .int .i64 7]) ∧ Below w.heap.size w w' := by
  have h1 := h.ins
  have h2 := h.outs
  have h3 := h.hi
  have h4 := h.hu
  refine (iOp_any d v o w h.rc h.fit h.good hl (by omega)).mono ?_
  rintro e w' ⟨hx, _, hb⟩
  exact ⟨hx (by omega), hb⟩
/-- What came out, undone. -/
theorem inv_applied (d m : ByteArray) (h : Ob w v o i u) (hd : d.size = i) (hm : (⟨(applyS d.data.toList o).toArray⟩ : ByteArray) = m) : (⟨(applyS m.data.toList (invS d o)).toArray⟩ : ByteArray) = d := by
  subst hm
  have I := inv_ua (d := d) h.good (by rw [h.ins]; omega)
  show (⟨(applyS (applyS d.data.toList o) (invS d o)).toArray⟩ : ByteArray) = d
  rw [I.back]
end
theorem inv_x : invS ⟨#[120]⟩ [pX ((1 : Nat) : Int)] = [pP ⟨#[120]⟩] := rfl
theorem known_op (w : World) : Ob (w.alloc (.cells (C [pX ((1 : Nat) : Int)]).toArray 42)) (.slice (some ⟨w.heap.size, 0, none⟩) 1 1) [pX ((1 : Nat) : Int)] 1 0 :=
  ⟨(parts_new w [pX ((1 : Nat) : Int)] 1 rfl).reads, (val_X (by omega) (by omega)).good, rfl, rfl, by omega, by omega⟩

set_option maxRecDepth 100000 in
set_option maxHeartbeats 1000000 in
theorem known6_any (w : World) : Calls Try.prog 9 #[] w fun e w' => e = .returned (.bool true) ∧ Below w.heap.size w w' := by
  go_enter Try.func9, Try.ntmps9
  go_wp2_with fail
  refine (inv_ob ⟨#[120]⟩ (known_op w) rfl).mono ?_
  rintro _ w1 ⟨v1, rfl, ho, hb⟩
  rw [inv_x] at ho
  have Hb1 := hid (show Below w.heap.size w w1 from below_seq ((Below.refl _ _).alloc (Nat.le_refl _) _) hb)
  obtain ⟨g, off, cap, rfl, hcap, hr, hg⟩ := ho.rc.place (by decide)
  obtain ⟨c0, c1, c2⟩ := RC.cells hr (j := 0) (c := pP ⟨#[120]⟩) rfl
  rw [Nat.zero_mul, Nat.add_zero] at c0 c1 c2
  simp only [List.length_cons, List.length_nil, pP] at hcap c0 c1 c2 ⊢
  clear hb ho hr hg
  go_wp2_with fail
  go_ret
  exact ⟨rfl, Hb1.out⟩
end Go.Proofs.Ytbhojomgbjchkaa
