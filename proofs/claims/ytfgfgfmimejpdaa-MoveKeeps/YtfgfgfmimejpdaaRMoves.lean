/- What the functions that join, cut, move and grow rectangles do, as contracts. -/
import Derived.Test.YtfgfgfmimejpdaaRRects
import Derived.Deep.RegionHeld3
namespace Go.Proofs.Ytfgfgfmimejpdaa.Rc
open Num Go.RowKit
set_option linter.unusedVariables false
set_option linter.unusedSimpArgs false
attribute [local go_sem ↓] run_min_i64 run_max_i64

/-- four cells, one behind the other, which may be written -/
structure Has4 (w : World) (k : Nat) (v0 v1 v2 v3 : Value) : Prop where
  c0 : w.cell? ⟨k, 0, none⟩ = some v0
  c1 : w.cell? ⟨k, 1, none⟩ = some v1
  c2 : w.cell? ⟨k, 2, none⟩ = some v2
  c3 : w.cell? ⟨k, 3, none⟩ = some v3
  fz : ∀ o, w.frozen? ⟨k, o, none⟩ = false
theorem Has4.below {W w' : World} {k : Nat} {v0 v1 v2 v3 : Value} (h : Has4 W k v0 v1 v2 v3) (hb : Below W.heap.size W w') : Has4 w' k v0 v1 v2 v3 := by
  have hk : k < W.heap.size := World.block_lt_of_cell? W ⟨k, 0, none⟩ h.c0
  obtain ⟨hc, hf⟩ := bcell hb
  exact ⟨by rw [hc _ _ hk]; exact h.c0, by rw [hc _ _ hk]; exact h.c1, by rw [hc _ _ hk]; exact h.c2, by rw [hc _ _ hk]; exact h.c3, fun o => by rw [hf _ _ hk]; exact h.fz o⟩
theorem Has4.alloc {W : World} {k : Nat} {v0 v1 v2 v3 : Value} (h : Has4 W k v0 v1 v2 v3) (o : Obj) : Has4 (W.alloc o) k v0 v1 v2 v3 :=
  h.below ((Below.refl _ _).alloc (Nat.le_refl _) _)
theorem Has4.new {W : World} {k : Nat} (hk : k = W.heap.size) (v0 v1 v2 v3 : Value) (t : TypeId) : Has4 (W.alloc (.cells #[v0, v1, v2, v3] t)) k v0 v1 v2 v3 := by
  subst hk
  exact ⟨by simp, by simp, by simp, by simp, fun o => by simp [go_sem]⟩

/-- what stands while a region goes: the cells that it reads; that there is room for the answer; that nothing else has turned -/
def Rest (w : World) (k : Nat) (w' : World) : Prop := Below w.heap.size w w' ∧ w.heap.size ≤ k ∧ ∃ v0 v1 v2 v3, Has4 w' k v0 v1 v2 v3
abbrev Sx (w : World) (p k : Nat) (v0 v1 v2 v3 : Value) (w' : World) : Prop := (w'.cell? ⟨p, 0, none⟩ = some v0 ∧ w'.cell? ⟨p, 1, none⟩ = some v1 ∧ w'.cell? ⟨p, 2, none⟩ = some v2 ∧ w'.cell? ⟨p, 3, none⟩ = some v3) ∧ Rest w k w'
theorem sx_below {w : World} {p k : Nat} {v0 v1 v2 v3 : Value} {w1 w2 : World} (h : Sx w p k v0 v1 v2 v3 w1) (hb : Below w1.heap.size w1 w2) : Sx w p k v0 v1 v2 v3 w2 := by
  obtain ⟨⟨c0, c1, c2, c3⟩, hB, hk, u0, u1, u2, u3, hR⟩ := h
  have hp : p < w1.heap.size := World.block_lt_of_cell? w1 ⟨p, 0, none⟩ c0
  obtain ⟨hc, hf⟩ := bcell hb
  exact ⟨⟨by rw [hc _ _ hp]; exact c0, by rw [hc _ _ hp]; exact c1, by rw [hc _ _ hp]; exact c2, by rw [hc _ _ hp]; exact c3⟩, via hB hb, hk, u0, u1, u2, u3, hR.below hb⟩
theorem sx_drew {w : World} {p k : Nat} {v0 v1 v2 v3 : Value} {w1 : World} (h : Sx w p k v0 v1 v2 v3 w1) : Sx w p k v0 v1 v2 v3 w1.drew := sx_below h (Below.refl _ _).drew
theorem sx_alloc {w : World} {p k : Nat} {v0 v1 v2 v3 : Value} {w1 : World} {o : Obj} (h : Sx w p k v0 v1 v2 v3 w1) : Sx w p k v0 v1 v2 v3 (w1.alloc o) :=
  sx_below h ((Below.refl _ _).alloc (Nat.le_refl _) _)
theorem sx_set {w : World} {p k : Nat} {v0 v1 v2 v3 : Value} {w1 : World} {x0 x1 x2 x3 : Value} (ne : k ≠ p) (h : Sx w p k v0 v1 v2 v3 w1) :
    Sx w p k v0 v1 v2 v3 ((((w1.setCell ⟨k, 0, none⟩ x0).setCell ⟨k, 1, none⟩ x1).setCell ⟨k, 2, none⟩ x2).setCell ⟨k, 3, none⟩ x3) := by
  obtain ⟨⟨c0, c1, c2, c3⟩, hB, hk, u0, u1, u2, u3, hR⟩ := h
  obtain ⟨s0, s1, s2, s3⟩ := set4 hR.c0 hR.c1 hR.c2 hR.c3 x0 x1 x2 x3
  refine ⟨⟨?_, ?_, ?_, ?_⟩, ?_, hk, x0, x1, x2, x3, s0, s1, s2, s3, fun o => ?_⟩
  · simp [World.cell?_setCell_far, ne, c0]
  · simp [World.cell?_setCell_far, ne, c1]
  · simp [World.cell?_setCell_far, ne, c2]
  · simp [World.cell?_setCell_far, ne, c3]
  · exact (((hB.setCell (by exact hk) _).setCell (by exact hk) _).setCell (by exact hk) _).setCell (by exact hk) _
  · simp [World.frozen?_setCell, hR.fz o]

end Go.Proofs.Ytfgfgfmimejpdaa.Rc
