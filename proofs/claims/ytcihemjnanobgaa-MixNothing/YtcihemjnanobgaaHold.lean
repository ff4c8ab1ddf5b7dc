/- Pixels that lie in memory: four cells of a block, and that they stay. -/
import Derived.Handy
import Derived.Test.YtcihemjnanobgaaComp
namespace Go.Proofs.Ytcihemjnanobgaa
open Num Go.RowKit
set_option linter.unusedVariables false
set_option linter.unusedSimpArgs false

theorem bcell {W w1 : World} (hb : Below W.heap.size W w1) : (∀ b o, b < W.heap.size → w1.cell? ⟨b, o, none⟩ = W.cell? ⟨b, o, none⟩) ∧ (∀ b o, b < W.heap.size → w1.frozen? ⟨b, o, none⟩ = W.frozen? ⟨b, o, none⟩) :=
  ⟨fun b o h => hb.cell (p := ⟨b, o, none⟩) h, fun b o h => hb.frozen (p := ⟨b, o, none⟩) h⟩
theorem via {w W1 w' : World} (h1 : Below w.heap.size w W1) (hb : Below W1.heap.size W1 w') : Below w.heap.size w w' := h1.trans (hb.mono h1.size)
theorem set4 {w' : World} {k : Nat} {p0 p1 p2 p3 : Value} (h0 : w'.cell? ⟨k, 0, none⟩ = some p0) (h1 : w'.cell? ⟨k, 1, none⟩ = some p1) (h2 : w'.cell? ⟨k, 2, none⟩ = some p2) (h3 : w'.cell? ⟨k, 3, none⟩ = some p3) (v0 v1 v2 v3 : Value) :
    ((((w'.setCell ⟨k, 0, none⟩ v0).setCell ⟨k, 1, none⟩ v1).setCell ⟨k, 2, none⟩ v2).setCell ⟨k, 3, none⟩ v3).cell? ⟨k, 0, none⟩ = some v0 ∧
    ((((w'.setCell ⟨k, 0, none⟩ v0).setCell ⟨k, 1, none⟩ v1).setCell ⟨k, 2, none⟩ v2).setCell ⟨k, 3, none⟩ v3).cell? ⟨k, 1, none⟩ = some v1 ∧
    ((((w'.setCell ⟨k, 0, none⟩ v0).setCell ⟨k, 1, none⟩ v1).setCell ⟨k, 2, none⟩ v2).setCell ⟨k, 3, none⟩ v3).cell? ⟨k, 2, none⟩ = some v2 ∧
    ((((w'.setCell ⟨k, 0, none⟩ v0).setCell ⟨k, 1, none⟩ v1).setCell ⟨k, 2, none⟩ v2).setCell ⟨k, 3, none⟩ v3).cell? ⟨k, 3, none⟩ = some v3 := by
  have g1 : (w'.setCell ⟨k, 0, none⟩ v0).cell? ⟨k, 1, none⟩ = some p1 := by rw [World.cell?_setCell_other _ _ _ _ (by simp)]; exact h1
  have g2 : ((w'.setCell ⟨k, 0, none⟩ v0).setCell ⟨k, 1, none⟩ v1).cell? ⟨k, 2, none⟩ = some p2 := by rw [World.cell?_setCell_other _ _ _ _ (by simp), World.cell?_setCell_other _ _ _ _ (by simp)]; exact h2
  have g3 : (((w'.setCell ⟨k, 0, none⟩ v0).setCell ⟨k, 1, none⟩ v1).setCell ⟨k, 2, none⟩ v2).cell? ⟨k, 3, none⟩ = some p3 := by rw [World.cell?_setCell_other _ _ _ _ (by simp), World.cell?_setCell_other _ _ _ _ (by simp), World.cell?_setCell_other _ _ _ _ (by simp)]; exact h3
  refine ⟨?_, ?_, ?_, World.cell?_setCell_same _ _ _ g3⟩
  · rw [World.cell?_setCell_other _ _ _ _ (by simp), World.cell?_setCell_other _ _ _ _ (by simp), World.cell?_setCell_other _ _ _ _ (by simp)]; exact World.cell?_setCell_same _ _ _ h0
  · rw [World.cell?_setCell_other _ _ _ _ (by simp), World.cell?_setCell_other _ _ _ _ (by simp)]; exact World.cell?_setCell_same _ _ _ g1
  · rw [World.cell?_setCell_other _ _ _ _ (by simp)]; exact World.cell?_setCell_same _ _ _ g2

/-- four cells, one behind the other, which may be written -/
structure Has4 (w : World) (k : Nat) (v0 v1 v2 v3 : Value) : Prop where
  c0 : w.cell? ⟨k, 0, none⟩ = some v0
  c1 : w.cell? ⟨k, 1, none⟩ = some v1
  c2 : w.cell? ⟨k, 2, none⟩ = some v2
  c3 : w.cell? ⟨k, 3, none⟩ = some v3
  fz : ∀ o, w.frozen? ⟨k, o, none⟩ = false
theorem Has4.below {W w' : World} {k : Nat} {v0 v1 v2 v3 : Value} (h : Has4 W k v0 v1 v2 v3) (hb : Below W.heap.size W w') : Has4 w' k v0 v1 v2 v3 := by
  have hk : k < W.heap.size := World.block_lt_of_cell? W ⟨k, 0, none⟩ h.c0
  obtain ⟨hc, hf⟩ := bcell hb
  exact ⟨by rw [hc _ _ hk]; exact h.c0, by rw [hc _ _ hk]; exact h.c1, by rw [hc _ _ hk]; exact h.c2, by rw [hc _ _ hk]; exact h.c3, fun o => by rw [hf _ _ hk]; exact h.fz o⟩
theorem Has4.alloc {W : World} {k : Nat} {v0 v1 v2 v3 : Value} (h : Has4 W k v0 v1 v2 v3) (o : Obj) : Has4 (W.alloc o) k v0 v1 v2 v3 :=
  h.below ((Below.refl _ _).alloc (Nat.le_refl _) _)
theorem Has4.new {W : World} {k : Nat} (hk : k = W.heap.size) (v0 v1 v2 v3 : Value) (t : TypeId) : Has4 (W.alloc (.cells #[v0, v1, v2, v3] t)) k v0 v1 v2 v3 := by
  subst hk
  exact ⟨by simp, by simp, by simp, by simp, fun o => by simp [go_sem]⟩

/-- two pixels that stand while a law or a function goes, and that nothing of what was there has turned -/
def Kept (w : World) (w' : World) : Prop := Below w.heap.size w w'
abbrev Sz (w : World) (p q : Nat) (v0 v1 v2 v3 u0 u1 u2 u3 : Value) (w' : World) : Prop :=
  (w'.cell? ⟨p, 0, none⟩ = some v0 ∧ w'.cell? ⟨p, 1, none⟩ = some v1 ∧ w'.cell? ⟨p, 2, none⟩ = some v2 ∧ w'.cell? ⟨p, 3, none⟩ = some v3) ∧
  (w'.cell? ⟨q, 0, none⟩ = some u0 ∧ w'.cell? ⟨q, 1, none⟩ = some u1 ∧ w'.cell? ⟨q, 2, none⟩ = some u2 ∧ w'.cell? ⟨q, 3, none⟩ = some u3) ∧ Kept w w'
theorem sz_below {w : World} {p q : Nat} {v0 v1 v2 v3 u0 u1 u2 u3 : Value} {w1 w2 : World} (h : Sz w p q v0 v1 v2 v3 u0 u1 u2 u3 w1) (hb : Below w1.heap.size w1 w2) : Sz w p q v0 v1 v2 v3 u0 u1 u2 u3 w2 := by
  obtain ⟨⟨c0, c1, c2, c3⟩, ⟨d0, d1, d2, d3⟩, hB⟩ := h
  have hp : p < w1.heap.size := World.block_lt_of_cell? w1 ⟨p, 0, none⟩ c0
  have hq : q < w1.heap.size := World.block_lt_of_cell? w1 ⟨q, 0, none⟩ d0
  obtain ⟨hc, hf⟩ := bcell hb
  exact ⟨⟨by rw [hc _ _ hp]; exact c0, by rw [hc _ _ hp]; exact c1, by rw [hc _ _ hp]; exact c2, by rw [hc _ _ hp]; exact c3⟩, ⟨by rw [hc _ _ hq]; exact d0, by rw [hc _ _ hq]; exact d1, by rw [hc _ _ hq]; exact d2, by rw [hc _ _ hq]; exact d3⟩, via (w := w) hB hb⟩
theorem sz_drew {w : World} {p q : Nat} {v0 v1 v2 v3 u0 u1 u2 u3 : Value} {w1 : World} (h : Sz w p q v0 v1 v2 v3 u0 u1 u2 u3 w1) : Sz w p q v0 v1 v2 v3 u0 u1 u2 u3 w1.drew := sz_below h (Below.refl _ _).drew
theorem sz_out {w : World} {p q : Nat} {v0 v1 v2 v3 u0 u1 u2 u3 : Value} {w1 : World} (h : Sz w p q v0 v1 v2 v3 u0 u1 u2 u3 w1) : Below w.heap.size w w1 := h.2.2
end Go.Proofs.Ytcihemjnanobgaa
