/- A scope in which the run jumps back to one label at its head: what holds at the head is what holds at every jump. -/
import Derived.WalkKit
import Derived.ScopeJumps
import Derived.WalkMore
namespace Go.Proofs.Ytjedajfemhpogaa
open Go.RowKit

theorem wp_scope_both {P : Program} {a : Act} {w : World} {Q : Exit → Act → World → Prop} {c rest : Code} (l : Nat) (J : Act → World → Prop) (μ : Act → World → Nat) (hf : findLabel c l = some rest) (h0 : J a w)
    (both : ∀ x, (x = c ∨ x = rest) → ∀ a w, J a w → x.wp P (Exit.jump l (fun a' w' => J a' w' ∧ μ a' w' < μ a w) Q) a w) : (Code.scope c).wp P Q a w := by
  refine wp_scope_jumps l J μ hf (wp_mono (both c (.inl rfl) a w h0) ?_) (both rest (.inr rfl))
  intro e a' w' h
  cases e <;> first | exact h | exact ⟨h.1, h.2.1⟩

theorem wp_scope_pre {P : Program} {a : Act} {w : World} {Q : Exit → Act → World → Prop} {pre y rest : Code} (l : Nat) (J : Act → World → Prop) (μ : Act → World → Nat) (hf : findLabel (pre.seq y) l = some rest)
    (first : pre.wp P (Exit.then J (Exit.jump l J Q)) a w)
    (both : ∀ x, (x = y ∨ x = rest) → ∀ a w, J a w → x.wp P (Exit.jump l (fun a' w' => J a' w' ∧ μ a' w' < μ a w) Q) a w) : (Code.scope (pre.seq y)).wp P Q a w := by
  refine wp_scope_jumps l J μ hf (wp_seq (wp_mono first ?_)) (both rest (.inr rfl))
  intro e a' w' h
  cases e with
  | normal =>
    refine wp_mono (both y (.inl rfl) a' w' h) ?_
    intro e a2 w2 h2
    cases e <;> first | exact h2 | exact ⟨h2.1, h2.2.1⟩
  | _ => exact h

/-- The label stands somewhere on the way: what holds there is shown once, on the way to it and at each jump. -/
theorem wp_scope_at {P : Program} {a : Act} {w : World} {Q : Exit → Act → World → Prop} {c X : Code} (l : Nat) (J : Act → World → Prop) (μ : Act → World → Nat) (hf : findLabel c l = some (Code.skip.seq X))
    (pass : ∀ a w, J a w → X.wp P (Exit.jump l (fun a' w' => J a' w' ∧ μ a' w' < μ a w) Q) a w)
    (first : (∀ a w, J a w → X.wp P (Exit.jump l J Q) a w) → c.wp P (Exit.jump l J Q) a w) : (Code.scope c).wp P Q a w := by
  refine wp_scope_jumps l J μ hf (first fun a w h => ?_) (fun a w h => wp_seq (wp_skip (pass a w h)))
  refine wp_mono (pass a w h) ?_
  intro e a2 w2 h2
  cases e <;> first | exact h2 | exact ⟨h2.1, h2.2.1⟩
end Go.Proofs.Ytjedajfemhpogaa
