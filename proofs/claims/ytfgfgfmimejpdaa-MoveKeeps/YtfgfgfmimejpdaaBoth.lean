/- What several of the contracts need. -/
import Derived.Test.YtfgfgfmimejpdaaWins
namespace Go.Proofs.Ytfgfgfmimejpdaa
open Num Go.RowKit
set_option linter.unusedVariables false
set_option linter.unusedSimpArgs false

theorem s8_alloc {w : World} {k m : Nat} {a b c d p q r s : Int} {w1 : World} {o : Obj} (h : S8 w k m a b c d p q r s w1) : S8 w k m a b c d p q r s (w1.alloc o) := s8_below h ((Below.refl _ _).alloc (Nat.le_refl _) _)
theorem s8_set {w : World} {k m : Nat} {a b c d p q r s : Int} {w1 : World} {j : Nat} {u0 u1 u2 u3 : Value} (h : S8 w k m a b c d p q r s w1) (hj : w.heap.size ≤ j) (h1 : k ≠ j) (h2 : m ≠ j) : S8 w k m a b c d p q r s ((((w1.setCell ⟨j, 0, none⟩ u0).setCell ⟨j, 1, none⟩ u1).setCell ⟨j, 2, none⟩ u2).setCell ⟨j, 3, none⟩ u3) := by
  have hb := but_set4 w1 j u0 u1 u2 u3
  obtain ⟨⟨c0, c1, c2, c3, d0, d1, d2, d3⟩, hB⟩ := h
  have hk : k < w1.heap.size := World.block_lt_of_cell? w1 ⟨k, 0, none⟩ c0
  have hm : m < w1.heap.size := World.block_lt_of_cell? w1 ⟨m, 0, none⟩ d0
  have e1 := fun o => World.cell?_of_block (a := ⟨k, o, none⟩) (hb.block k hk h1)
  have e2 := fun o => World.cell?_of_block (a := ⟨m, o, none⟩) (hb.block m hm h2)
  exact ⟨⟨by rw [e1]; exact c0, by rw [e1]; exact c1, by rw [e1]; exact c2, by rw [e1]; exact c3, by rw [e2]; exact d0, by rw [e2]; exact d1, by rw [e2]; exact d2, by rw [e2]; exact d3⟩, hB.trans (hb.low hj hB.size)⟩

theorem drew_le {w w' : World} (h : Below w.drew.heap.size w.drew w') : w.heap.size ≤ w'.heap.size := h.size
theorem ox_four {lo : Nat} {w : World} {ao : Option Addr} {n m g off : Nat} {l : List X} (h : Ox lo w ao n m g off l) {q i : Nat} (hi : q + i < n) : ∃ u0 u1 u2 u3, w.cell? ⟨g, off + q * 4 + i * 4, none⟩ = some u0 ∧ w.cell? ⟨g, off + q * 4 + i * 4 + 1, none⟩ = some u1 ∧ w.cell? ⟨g, off + q * 4 + i * 4 + 2, none⟩ = some u2 ∧ w.cell? ⟨g, off + q * 4 + i * 4 + 3, none⟩ = some u3 ∧
    w.frozen? ⟨g, off + q * 4 + i * 4, none⟩ = false ∧ w.frozen? ⟨g, off + q * 4 + i * 4 + 1, none⟩ = false ∧ w.frozen? ⟨g, off + q * 4 + i * 4 + 2, none⟩ = false ∧ w.frozen? ⟨g, off + q * 4 + i * 4 + 3, none⟩ = false := by
  have hle := h.v.le
  have r : ∀ j, j < 4 → (w.cell? ⟨g, off + q * 4 + i * 4 + j, none⟩).isSome = true ∧ w.frozen? ⟨g, off + q * 4 + i * 4 + j, none⟩ = false := by
    intro j hj
    rw [show off + q * 4 + i * 4 + j = off + (q * 4 + i * 4 + j) by omega]
    exact h.room _ (by omega)
  have r0 := r 0 (by omega)
  rw [Nat.add_zero] at r0
  obtain ⟨u0, e0⟩ := Option.isSome_iff_exists.1 r0.1
  obtain ⟨u1, e1⟩ := Option.isSome_iff_exists.1 (r 1 (by omega)).1
  obtain ⟨u2, e2⟩ := Option.isSome_iff_exists.1 (r 2 (by omega)).1
  obtain ⟨u3, e3⟩ := Option.isSome_iff_exists.1 (r 3 (by omega)).1
  exact ⟨u0, u1, u2, u3, e0, e1, e2, e3, r0.2, (r 1 (by omega)).2, (r 2 (by omega)).2, (r 3 (by omega)).2⟩
theorem line_one (h : Int → X) (a : Int) : line h a (a + 1) = [h a] := by
  unfold line
  rw [show (a + 1 - a).toNat = 1 by omega]
  simp
theorem s9_drew {w : World} {k ka : Nat} {B A : R} {v : Value} {w1 : World} (h : S9 w k ka B A v w1) : S9 w k ka B A v w1.drew := s9_below h (Below.refl _ _).drew
end Go.Proofs.Ytfgfgfmimejpdaa
