/- A scope in which the run jumps to several labels: what holds at each jump. -/
import Derived.Test.YtcghcocacbglbabJump
namespace Go.Proofs.Ytcghcocacbglbab
open Go.RowKit

/-- As Q; by a goto to label l: J l. -/
def jumps (J : Nat → Act → World → Prop) (Q : Exit → Act → World → Prop) : Exit → Act → World → Prop
  | .goto l, a, w => J l a w
  | e, a, w => Q e a w

theorem wp_scope_many {P : Program} {a : Act} {w : World} {Q : Exit → Act → World → Prop} {c : Code} (R : Nat → Code) (J : Nat → Act → World → Prop) (μ : Nat → Act → World → Nat)
    (hf : ∀ l a w, J l a w → findLabel c l = some (R l))
    (first : c.wp P (jumps J Q) a w)
    (pass : ∀ l a w, J l a w → (R l).wp P (jumps (fun l' a' w' => J l' a' w' ∧ μ l' a' w' < μ l a w) Q) a w) : (Code.scope c).wp P Q a w := by
  intro b k cs
  have hg : ∀ l a w, J l a w → gotoIn l (.inScope c :: k) = some (.code (R l) :: .inScope c :: k) := fun l a w h => by simp [gotoIn, hf l a w h]
  have key : ∀ n l a w, μ l a w = n → J l a w → ∃ e a' w', Q e a' w' ∧ Arrives P (lone (b.at a (.code (R l) :: .inScope c :: k)) cs w) b k cs e a' w' := by
    intro n
    induction n using Nat.strongRecOn with
    | _ n ih =>
      intro l a w hn hJ
      obtain ⟨e, a₁, w₁, hq, harr⟩ := pass l a w hJ b (.inScope c :: k) cs
      cases e with
      | normal => exact ⟨.normal, a₁, w₁, hq, Steps.trans harr (.one step_inScope)⟩
      | exit id => exact ⟨.exit id, a₁, w₁, hq, fun k' hk => harr k' (by simp [exitTo, hk])⟩
      | goto l' =>
        obtain ⟨hJ', hlt⟩ := hq
        obtain ⟨e₂, a₂, w₂, hq₂, harr₂⟩ := ih _ (by omega) l' a₁ w₁ rfl hJ'
        exact ⟨e₂, a₂, w₂, hq₂, .of_steps (harr _ (hg l' a₁ w₁ hJ')) harr₂⟩
      | ret => exact ⟨_, a₁, w₁, hq, harr⟩
      | panic ch => exact ⟨_, a₁, w₁, hq, harr⟩
      | outgrown => exact ⟨_, a₁, w₁, hq, harr⟩
  obtain ⟨e, a₁, w₁, hq, harr⟩ := first b (.inScope c :: k) cs
  cases e with
  | normal => exact ⟨.normal, a₁, w₁, hq, .head step_scope (Steps.trans harr (.one step_inScope))⟩
  | exit id => exact ⟨.exit id, a₁, w₁, hq, fun k' hk => .head step_scope (harr k' (by simp [exitTo, hk]))⟩
  | goto l' =>
    obtain ⟨e₂, a₂, w₂, hq₂, harr₂⟩ := key _ l' a₁ w₁ rfl hq
    exact ⟨e₂, a₂, w₂, hq₂, .of_steps (.head step_scope (harr _ (hg l' a₁ w₁ hq))) harr₂⟩
  | ret => exact ⟨_, a₁, w₁, hq, .of_steps (.one step_scope) harr⟩
  | panic ch => exact ⟨_, a₁, w₁, hq, .of_steps (.one step_scope) harr⟩
  | outgrown => exact ⟨_, a₁, w₁, hq, .of_steps (.one step_scope) harr⟩

/-- Two labels, one behind the other: what stands behind the second is shown once, from a lesser or the same measure on. -/
theorem wp_scope_two {P : Program} {a : Act} {w : World} {Q : Exit → Act → World → Prop} {c X Y : Code} (l m : Nat) (hlm : l ≠ m) (I J : Act → World → Prop) (μ : Act → World → Nat)
    (hl : findLabel c l = some (Code.skip.seq X)) (hm : findLabel c m = some (Code.skip.seq Y))
    (passY : ∀ N a w, J a w → μ a w ≤ N → Y.wp P (jumps (fun l' a' w' => ((l' = l ∧ I a' w') ∨ (l' = m ∧ J a' w')) ∧ μ a' w' < N) Q) a w)
    (passX : (∀ N a w, J a w → μ a w ≤ N → Y.wp P (jumps (fun l' a' w' => ((l' = l ∧ I a' w') ∨ (l' = m ∧ J a' w')) ∧ μ a' w' < N) Q) a w) → ∀ N a w, I a w → μ a w ≤ N → X.wp P (jumps (fun l' a' w' => ((l' = l ∧ I a' w') ∨ (l' = m ∧ J a' w')) ∧ μ a' w' < N) Q) a w)
    (first : (∀ a w, I a w → X.wp P (jumps (fun l' a' w' => (l' = l ∧ I a' w') ∨ (l' = m ∧ J a' w')) Q) a w) → c.wp P (jumps (fun l' a' w' => (l' = l ∧ I a' w') ∨ (l' = m ∧ J a' w')) Q) a w) : (Code.scope c).wp P Q a w := by
  have hX : ∀ a w, I a w → X.wp P (jumps (fun l' a' w' => (l' = l ∧ I a' w') ∨ (l' = m ∧ J a' w')) Q) a w := fun a w h => by
    refine wp_mono (passX passY _ a w h (Nat.le_refl _)) ?_
    intro e a2 w2 h2
    cases e <;> first | exact h2 | exact h2.1
  refine wp_scope_many (fun k => if k = l then Code.skip.seq X else Code.skip.seq Y) (fun l' a' w' => (l' = l ∧ I a' w') ∨ (l' = m ∧ J a' w')) (fun _ a w => μ a w) ?_ (first hX) ?_
  · rintro k a w (⟨rfl, h⟩ | ⟨rfl, h⟩)
    · rw [if_pos rfl, hl]
    · rw [if_neg (fun e => hlm e.symm), hm]
  · rintro k a w (⟨rfl, h⟩ | ⟨rfl, h⟩)
    · rw [if_pos rfl]
      exact wp_seq (wp_skip (passX passY _ a w h (Nat.le_refl _)))
    · rw [if_neg (fun e => hlm e.symm)]
      exact wp_seq (wp_skip (passY _ a w h (Nat.le_refl _)))
end Go.Proofs.Ytcghcocacbglbab
