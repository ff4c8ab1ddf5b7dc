/- What the three laws' walks have in common. -/
import Derived.Test.YtdceglpkhggkmaaAwake
namespace Go.Proofs.Ytdceglpkhggkmaa
open Num Go.RowKit
set_option linter.unusedVariables false

/-- the cells that a region reads, and that nothing else has turned -/
def Kept (w w' : World) : Prop := Below w.heap.size w w'
abbrev Sy (w : World) (p : Nat) (v0 v1 v2 v3 : Value) (w' : World) : Prop := (w'.cell? ⟨p, 0, none⟩ = some v0 ∧ w'.cell? ⟨p, 1, none⟩ = some v1 ∧ w'.cell? ⟨p, 2, none⟩ = some v2 ∧ w'.cell? ⟨p, 3, none⟩ = some v3) ∧ Kept w w'
theorem sy_below {w : World} {p : Nat} {v0 v1 v2 v3 : Value} {w1 w2 : World} (h : Sy w p v0 v1 v2 v3 w1) (hb : Below w1.heap.size w1 w2) : Sy w p v0 v1 v2 v3 w2 := by
  obtain ⟨⟨c0, c1, c2, c3⟩, hB⟩ := h
  have hp : p < w1.heap.size := World.block_lt_of_cell? w1 ⟨p, 0, none⟩ c0
  obtain ⟨hc, hf⟩ := bcell hb
  exact ⟨⟨by rw [hc _ _ hp]; exact c0, by rw [hc _ _ hp]; exact c1, by rw [hc _ _ hp]; exact c2, by rw [hc _ _ hp]; exact c3⟩, via hB hb⟩
theorem sy_drew {w : World} {p : Nat} {v0 v1 v2 v3 : Value} {w1 : World} (h : Sy w p v0 v1 v2 v3 w1) : Sy w p v0 v1 v2 v3 w1.drew := sy_below h (Below.refl _ _).drew
theorem sy_out {w : World} {p : Nat} {v0 v1 v2 v3 : Value} {w' : World} (h : Sy w p v0 v1 v2 v3 w') : Below w.heap.size w w' := h.2
abbrev Sz (w : World) (p q : Nat) (v0 v1 v2 v3 u0 u1 u2 u3 : Value) (w' : World) : Prop := (w'.cell? ⟨p, 0, none⟩ = some v0 ∧ w'.cell? ⟨p, 1, none⟩ = some v1 ∧ w'.cell? ⟨p, 2, none⟩ = some v2 ∧ w'.cell? ⟨p, 3, none⟩ = some v3) ∧ (w'.cell? ⟨q, 0, none⟩ = some u0 ∧ w'.cell? ⟨q, 1, none⟩ = some u1 ∧ w'.cell? ⟨q, 2, none⟩ = some u2 ∧ w'.cell? ⟨q, 3, none⟩ = some u3) ∧ Kept w w'
theorem sz_below {w : World} {p q : Nat} {v0 v1 v2 v3 u0 u1 u2 u3 : Value} {w1 w2 : World} (h : Sz w p q v0 v1 v2 v3 u0 u1 u2 u3 w1) (hb : Below w1.heap.size w1 w2) : Sz w p q v0 v1 v2 v3 u0 u1 u2 u3 w2 := by
  obtain ⟨h1, h2, h3⟩ := h
  exact ⟨(sy_below ⟨h1, h3⟩ hb).1, sy_below ⟨h2, h3⟩ hb⟩
theorem sz_drew {w : World} {p q : Nat} {v0 v1 v2 v3 u0 u1 u2 u3 : Value} {w1 : World} (h : Sz w p q v0 v1 v2 v3 u0 u1 u2 u3 w1) : Sz w p q v0 v1 v2 v3 u0 u1 u2 u3 w1.drew := sz_below h (Below.refl _ _).drew

theorem sz_out {w : World} {p q : Nat} {v0 v1 v2 v3 u0 u1 u2 u3 : Value} {w' : World} (h : Sz w p q v0 v1 v2 v3 u0 u1 u2 u3 w') : Below w.heap.size w w' := h.2.2

theorem ok_of {a b c d : Int} (h : rightB ⟨a, b, c, d⟩ = true) : Ok ⟨a, b, c, d⟩ := of_right h
theorem near_of {n : Int} (h : nearB n = true) : -4398046511104 ≤ n ∧ n ≤ 4398046511104 := of_decide_eq_true h
end Go.Proofs.Ytdceglpkhggkmaa
