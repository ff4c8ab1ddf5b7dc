/- A scope with two labels: one that is jumped back to, time and again, and one ahead. -/
import Derived.ScopeJumps
import Derived.WalkMore
namespace Go.Proofs.Ytfkbdpbgeglgaaa
open Go
set_option linter.unusedVariables false

/-- as Q; by a jump back: J; by a jump ahead: S -/
def jumpTo (J S : Act → World → Prop) (Q : Exit → Act → World → Prop) : Exit → Act → World → Prop
  | .goto l, a, w => (l = 1 ∧ J a w) ∨ (l = 0 ∧ S a w)
  | e, a, w => Q e a w

theorem wp_scope_back {P : Program} {Q : Exit → Act → World → Prop} {c r0 r1 : Code} {a : Act} {w : World} (h0 : findLabel c 0 = some r0) (h1 : findLabel c 1 = some r1)
    (J : Nat → Act → World → Prop) (S : Act → World → Prop)
    (first : c.wp P (jumpTo (fun a w => ∃ n, J n a w) S Q) a w)
    (pass : ∀ n a w, J n a w → r1.wp P (jumpTo (fun a w => ∃ m, m < n ∧ J m a w) S Q) a w)
    (last : ∀ a w, S a w → r0.wp P (jumpTo (fun _ _ => False) (fun _ _ => False) Q) a w) : (Code.scope c).wp P Q a w := by
  intro b k cs
  have g0 : gotoIn 0 (.inScope c :: k) = some (.code r0 :: .inScope c :: k) := by simp [gotoIn, h0]
  have g1 : gotoIn 1 (.inScope c :: k) = some (.code r1 :: .inScope c :: k) := by simp [gotoIn, h1]
  have hlast : ∀ a w, S a w → ∃ e a' w', Q e a' w' ∧ Arrives P (lone (b.at a (.code r0 :: .inScope c :: k)) cs w) b k cs e a' w' := by
    intro a w h
    obtain ⟨e, a₁, w₁, hq, harr⟩ := last a w h b (.inScope c :: k) cs
    cases e with
    | normal => exact ⟨.normal, a₁, w₁, hq, Steps.trans harr (.one step_inScope)⟩
    | exit id => exact ⟨.exit id, a₁, w₁, hq, fun k' hk => harr k' (by simp [exitTo, hk])⟩
    | goto l' => rcases hq with ⟨-, hq⟩ | ⟨-, hq⟩ <;> exact False.elim hq
    | ret => exact ⟨_, a₁, w₁, hq, harr⟩
    | panic ch => exact ⟨_, a₁, w₁, hq, harr⟩
    | outgrown => exact ⟨_, a₁, w₁, hq, harr⟩
  have hback : ∀ n a w, J n a w → ∃ e a' w', Q e a' w' ∧ Arrives P (lone (b.at a (.code r1 :: .inScope c :: k)) cs w) b k cs e a' w' := by
    intro n
    induction n using Nat.strongRecOn with
    | _ n ih =>
      intro a w h
      obtain ⟨e, a₁, w₁, hq, harr⟩ := pass n a w h b (.inScope c :: k) cs
      cases e with
      | normal => exact ⟨.normal, a₁, w₁, hq, Steps.trans harr (.one step_inScope)⟩
      | exit id => exact ⟨.exit id, a₁, w₁, hq, fun k' hk => harr k' (by simp [exitTo, hk])⟩
      | goto l' =>
        rcases hq with ⟨rfl, m, hm, hj⟩ | ⟨rfl, hs⟩
        · obtain ⟨e₂, a₂, w₂, hq₂, harr₂⟩ := ih m hm a₁ w₁ hj
          exact ⟨e₂, a₂, w₂, hq₂, .of_steps (harr _ g1) harr₂⟩
        · obtain ⟨e₂, a₂, w₂, hq₂, harr₂⟩ := hlast a₁ w₁ hs
          exact ⟨e₂, a₂, w₂, hq₂, .of_steps (harr _ g0) harr₂⟩
      | ret => exact ⟨_, a₁, w₁, hq, harr⟩
      | panic ch => exact ⟨_, a₁, w₁, hq, harr⟩
      | outgrown => exact ⟨_, a₁, w₁, hq, harr⟩
  obtain ⟨e, a₁, w₁, hq, harr⟩ := first b (.inScope c :: k) cs
  cases e with
  | normal => exact ⟨.normal, a₁, w₁, hq, .head step_scope (Steps.trans harr (.one step_inScope))⟩
  | exit id => exact ⟨.exit id, a₁, w₁, hq, fun k' hk => .head step_scope (harr k' (by simp [exitTo, hk]))⟩
  | goto l' =>
    rcases hq with ⟨rfl, n, hj⟩ | ⟨rfl, hs⟩
    · obtain ⟨e₂, a₂, w₂, hq₂, harr₂⟩ := hback n a₁ w₁ hj
      exact ⟨e₂, a₂, w₂, hq₂, .of_steps (.head step_scope (harr _ g1)) harr₂⟩
    · obtain ⟨e₂, a₂, w₂, hq₂, harr₂⟩ := hlast a₁ w₁ hs
      exact ⟨e₂, a₂, w₂, hq₂, .of_steps (.head step_scope (harr _ g0)) harr₂⟩
  | ret => exact ⟨_, a₁, w₁, hq, .of_steps (.one step_scope) harr⟩
  | panic ch => exact ⟨_, a₁, w₁, hq, .of_steps (.one step_scope) harr⟩
  | outgrown => exact ⟨_, a₁, w₁, hq, .of_steps (.one step_scope) harr⟩
/-- .. that stands first -/
theorem wp_scope_back1 {P : Program} {Q : Exit → Act → World → Prop} {r r0 : Code} {a : Act} {w : World} (h0 : findLabel ((Code.label 1).seq r) 0 = some r0) (h1 : findLabel ((Code.label 1).seq r) 1 = some (Code.skip.seq r))
    (J : Nat → Act → World → Prop) (S : Act → World → Prop) (start : ∃ n, J n a w)
    (pass : ∀ n a w, J n a w → r.wp P (jumpTo (fun a w => ∃ m, m < n ∧ J m a w) S Q) a w)
    (last : ∀ a w, S a w → r0.wp P (jumpTo (fun _ _ => False) (fun _ _ => False) Q) a w) : (Code.scope ((Code.label 1).seq r)).wp P Q a w := by
  refine wp_scope_back h0 h1 J S ?_ (fun n a w h => wp_seq (wp_skip (pass n a w h))) last
  obtain ⟨n, hn⟩ := start
  refine wp_seq (wp_label ?_)
  refine wp_mono (pass n a w hn) (fun e a w hq => ?_)
  cases e with
  | goto l =>
    rcases hq with ⟨rfl, m, -, hm⟩ | ⟨rfl, hs⟩
    · exact Or.inl ⟨rfl, m, hm⟩
    · exact Or.inr ⟨rfl, hs⟩
  | normal => exact hq
  | exit id => exact hq
  | ret => exact hq
  | panic ch => exact hq
  | outgrown => exact hq
end Go.Proofs.Ytfkbdpbgeglgaaa
