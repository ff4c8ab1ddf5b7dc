/- A scope with one label ahead: jumped to from within, or come to. -/
import Derived.ScopeJumps
import Derived.WalkMore
namespace Go.Proofs.Ytleclkjinkbebaa
open Go
set_option linter.unusedVariables false

/-- what a jump must lead to -/
def jumps (J : Nat → Act → World → Prop) (Q : Exit → Act → World → Prop) : Exit → Act → World → Prop
  | .goto l, a, w => J l a w
  | e, a, w => Q e a w
/-- behind the label -/
def Last (P : Program) (Q : Exit → Act → World → Prop) (r1 : Code) (a : Act) (w : World) : Prop :=
  ∀ Q3 : Exit → Act → World → Prop, (∀ e a w, (∀ l, e ≠ .goto l) → Q e a w → Q3 e a w) → r1.wp P Q3 a w

theorem wp_scope_one {P : Program} {Q : Exit → Act → World → Prop} {c r0 : Code} {a : Act} {w : World} (h0 : findLabel c 0 = some r0)
    (first : ∀ Q1 : Exit → Act → World → Prop, (∀ a w, Last P Q r0 a w → Q1 (.goto 0) a w) → (∀ e a w, (∀ l, e ≠ .goto l) → Q e a w → Q1 e a w) → c.wp P Q1 a w) : (Code.scope c).wp P Q a w := by
  have keep : ∀ (J : Nat → Act → World → Prop) e a w, (∀ l, e ≠ .goto l) → Q e a w → jumps J Q e a w := by
    intro J e a w he hq
    cases e with
    | goto l => exact absurd rfl (he l)
    | normal => exact hq
    | exit id => exact hq
    | ret => exact hq
    | panic ch => exact hq
    | outgrown => exact hq
  intro b k cs
  have g0 : gotoIn 0 (.inScope c :: k) = some (.code r0 :: .inScope c :: k) := by simp [gotoIn, h0]
  have last : ∀ a w, Last P Q r0 a w → ∃ e a' w', Q e a' w' ∧ Arrives P (lone (b.at a (.code r0 :: .inScope c :: k)) cs w) b k cs e a' w' := by
    intro a w h
    obtain ⟨e, a₁, w₁, hq, harr⟩ := h (jumps (fun _ _ _ => False) Q) (keep _) b (.inScope c :: k) cs
    cases e with
    | normal => exact ⟨.normal, a₁, w₁, hq, Steps.trans harr (.one step_inScope)⟩
    | exit id => exact ⟨.exit id, a₁, w₁, hq, fun k' hk => harr k' (by simp [exitTo, hk])⟩
    | goto l' => exact False.elim hq
    | ret => exact ⟨_, a₁, w₁, hq, harr⟩
    | panic ch => exact ⟨_, a₁, w₁, hq, harr⟩
    | outgrown => exact ⟨_, a₁, w₁, hq, harr⟩
  obtain ⟨e, a₁, w₁, hq, harr⟩ := first (jumps (fun l a w => l = 0 ∧ Last P Q r0 a w) Q) (fun a w h => ⟨rfl, h⟩) (keep _) b (.inScope c :: k) cs
  cases e with
  | normal => exact ⟨.normal, a₁, w₁, hq, .head step_scope (Steps.trans harr (.one step_inScope))⟩
  | exit id => exact ⟨.exit id, a₁, w₁, hq, fun k' hk => .head step_scope (harr k' (by simp [exitTo, hk]))⟩
  | goto l' =>
    obtain ⟨rfl, hl⟩ := hq
    obtain ⟨e₂, a₂, w₂, hq₂, harr₂⟩ := last a₁ w₁ hl
    exact ⟨e₂, a₂, w₂, hq₂, .of_steps (.head step_scope (harr _ g0)) harr₂⟩
  | ret => exact ⟨_, a₁, w₁, hq, .of_steps (.one step_scope) harr⟩
  | panic ch => exact ⟨_, a₁, w₁, hq, .of_steps (.one step_scope) harr⟩
  | outgrown => exact ⟨_, a₁, w₁, hq, .of_steps (.one step_scope) harr⟩
end Go.Proofs.Ytleclkjinkbebaa
