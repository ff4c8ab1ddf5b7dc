/- Pixels that lie in memory: four cells of a block, and that they stay. -/
import Derived.Test.YtageofpkfghllaaRow
namespace Go.Proofs.Ytageofpkfghllaa
open Num Go.RowKit
set_option linter.unusedVariables false
set_option linter.unusedSimpArgs false

/-- four cells, one behind the other, which may be written -/
structure Has4 (w : World) (k : Nat) (v0 v1 v2 v3 : Value) : Prop where
  c0 : w.cell? ⟨k, 0, none⟩ = some v0
  c1 : w.cell? ⟨k, 1, none⟩ = some v1
  c2 : w.cell? ⟨k, 2, none⟩ = some v2
  c3 : w.cell? ⟨k, 3, none⟩ = some v3
  fz : ∀ o, w.frozen? ⟨k, o, none⟩ = false
theorem Has4.below {W w' : World} {k : Nat} {v0 v1 v2 v3 : Value} (h : Has4 W k v0 v1 v2 v3) (hb : Below W.heap.size W w') : Has4 w' k v0 v1 v2 v3 := by
  have hk : k < W.heap.size := World.block_lt_of_cell? W ⟨k, 0, none⟩ h.c0
  obtain ⟨hc, hf⟩ := bcell hb
  exact ⟨by rw [hc _ _ hk]; exact h.c0, by rw [hc _ _ hk]; exact h.c1, by rw [hc _ _ hk]; exact h.c2, by rw [hc _ _ hk]; exact h.c3, fun o => by rw [hf _ _ hk]; exact h.fz o⟩
theorem Has4.alloc {W : World} {k : Nat} {v0 v1 v2 v3 : Value} (h : Has4 W k v0 v1 v2 v3) (o : Obj) : Has4 (W.alloc o) k v0 v1 v2 v3 :=
  h.below ((Below.refl _ _).alloc (Nat.le_refl _) _)
theorem Has4.new {W : World} {k : Nat} (hk : k = W.heap.size) (v0 v1 v2 v3 : Value) (t : TypeId) : Has4 (W.alloc (.cells #[v0, v1, v2, v3] t)) k v0 v1 v2 v3 := by
  subst hk
  exact ⟨by simp, by simp, by simp, by simp, fun o => by simp [go_sem]⟩
theorem Has4.set_far {w : World} {k j : Nat} {v0 v1 v2 v3 : Value} (h : Has4 w k v0 v1 v2 v3) (hj : j ≠ k) (o : Nat) (v : Value) : Has4 (w.setCell ⟨j, o, none⟩ v) k v0 v1 v2 v3 := by
  have e : ∀ x, (w.setCell ⟨j, o, none⟩ v).cell? ⟨k, x, none⟩ = w.cell? ⟨k, x, none⟩ := fun x => World.cell?_setCell_other _ _ _ _ (by simp [hj.symm])
  exact ⟨by rw [e]; exact h.c0, by rw [e]; exact h.c1, by rw [e]; exact h.c2, by rw [e]; exact h.c3, fun x => by simp [World.frozen?_setCell, h.fz x]⟩
theorem Has4.set0 {w : World} {k : Nat} {v0 v1 v2 v3 : Value} (h : Has4 w k v0 v1 v2 v3) (v : Value) : Has4 (w.setCell ⟨k, 0, none⟩ v) k v v1 v2 v3 :=
  ⟨World.cell?_setCell_same _ _ _ h.c0, by rw [World.cell?_setCell_other _ _ _ _ (by simp)]; exact h.c1, by rw [World.cell?_setCell_other _ _ _ _ (by simp)]; exact h.c2, by rw [World.cell?_setCell_other _ _ _ _ (by simp)]; exact h.c3, fun x => by simp [World.frozen?_setCell, h.fz x]⟩
theorem Has4.set1 {w : World} {k : Nat} {v0 v1 v2 v3 : Value} (h : Has4 w k v0 v1 v2 v3) (v : Value) : Has4 (w.setCell ⟨k, 1, none⟩ v) k v0 v v2 v3 :=
  ⟨by rw [World.cell?_setCell_other _ _ _ _ (by simp)]; exact h.c0, World.cell?_setCell_same _ _ _ h.c1, by rw [World.cell?_setCell_other _ _ _ _ (by simp)]; exact h.c2, by rw [World.cell?_setCell_other _ _ _ _ (by simp)]; exact h.c3, fun x => by simp [World.frozen?_setCell, h.fz x]⟩
theorem Has4.set2 {w : World} {k : Nat} {v0 v1 v2 v3 : Value} (h : Has4 w k v0 v1 v2 v3) (v : Value) : Has4 (w.setCell ⟨k, 2, none⟩ v) k v0 v1 v v3 :=
  ⟨by rw [World.cell?_setCell_other _ _ _ _ (by simp)]; exact h.c0, by rw [World.cell?_setCell_other _ _ _ _ (by simp)]; exact h.c1, World.cell?_setCell_same _ _ _ h.c2, by rw [World.cell?_setCell_other _ _ _ _ (by simp)]; exact h.c3, fun x => by simp [World.frozen?_setCell, h.fz x]⟩
theorem Has4.set3 {w : World} {k : Nat} {v0 v1 v2 v3 : Value} (h : Has4 w k v0 v1 v2 v3) (v : Value) : Has4 (w.setCell ⟨k, 3, none⟩ v) k v0 v1 v2 v :=
  ⟨by rw [World.cell?_setCell_other _ _ _ _ (by simp)]; exact h.c0, by rw [World.cell?_setCell_other _ _ _ _ (by simp)]; exact h.c1, by rw [World.cell?_setCell_other _ _ _ _ (by simp)]; exact h.c2, World.cell?_setCell_same _ _ _ h.c3, fun x => by simp [World.frozen?_setCell, h.fz x]⟩
/-- all four at once -/
theorem Has4.set {w : World} {k : Nat} {v0 v1 v2 v3 : Value} (h : Has4 w k v0 v1 v2 v3) (u0 u1 u2 u3 : Value) : Has4 ((((w.setCell ⟨k, 0, none⟩ u0).setCell ⟨k, 1, none⟩ u1).setCell ⟨k, 2, none⟩ u2).setCell ⟨k, 3, none⟩ u3) k u0 u1 u2 u3 := (((h.set0 u0).set1 u1).set2 u2).set3 u3

/-- a pixel that stands, and that nothing of what was there has turned -/
def Kept (w : World) (w' : World) : Prop := Below w.heap.size w w'
abbrev S1 (w : World) (p : Nat) (v0 v1 v2 v3 : Value) (w' : World) : Prop :=
  (w'.cell? ⟨p, 0, none⟩ = some v0 ∧ w'.cell? ⟨p, 1, none⟩ = some v1 ∧ w'.cell? ⟨p, 2, none⟩ = some v2 ∧ w'.cell? ⟨p, 3, none⟩ = some v3) ∧ Kept w w'
theorem s1_below {w : World} {p : Nat} {v0 v1 v2 v3 : Value} {w1 w2 : World} (h : S1 w p v0 v1 v2 v3 w1) (hb : Below w1.heap.size w1 w2) : S1 w p v0 v1 v2 v3 w2 := by
  obtain ⟨⟨c0, c1, c2, c3⟩, hB⟩ := h
  have hp : p < w1.heap.size := World.block_lt_of_cell? w1 ⟨p, 0, none⟩ c0
  obtain ⟨hc, hf⟩ := bcell hb
  exact ⟨⟨by rw [hc _ _ hp]; exact c0, by rw [hc _ _ hp]; exact c1, by rw [hc _ _ hp]; exact c2, by rw [hc _ _ hp]; exact c3⟩, via (w := w) hB hb⟩
theorem s1_drew {w : World} {p : Nat} {v0 v1 v2 v3 : Value} {w1 : World} (h : S1 w p v0 v1 v2 v3 w1) : S1 w p v0 v1 v2 v3 w1.drew := s1_below h (Below.refl _ _).drew
theorem s1_out {w : World} {p : Nat} {v0 v1 v2 v3 : Value} {w1 : World} (h : S1 w p v0 v1 v2 v3 w1) : Below w.heap.size w w1 := h.2
theorem s1_new (w : World) (v0 v1 v2 v3 : Value) (t : TypeId) : S1 w w.heap.size v0 v1 v2 v3 (w.alloc (.cells #[v0, v1, v2, v3] t)) :=
  ⟨⟨(Has4.new rfl _ _ _ _ t).c0, (Has4.new rfl _ _ _ _ t).c1, (Has4.new rfl _ _ _ _ t).c2, (Has4.new rfl _ _ _ _ t).c3⟩, (Below.refl _ _).alloc (Nat.le_refl _) _⟩

/-- while a pixel is made: the plain colours (p); where it is answered (q), and what is made (j), stand -/
def Rest2 (w : World) (q j : Nat) (w' : World) : Prop := Below w.heap.size w w' ∧ w.heap.size ≤ q ∧ w.heap.size ≤ j ∧ (∃ x0 x1 x2 x3, Has4 w' q x0 x1 x2 x3) ∧ ∃ x0 x1 x2 x3, Has4 w' j x0 x1 x2 x3
abbrev S2 (w : World) (p q j : Nat) (v0 v1 v2 v3 : Value) (w' : World) : Prop :=
  (w'.cell? ⟨p, 0, none⟩ = some v0 ∧ w'.cell? ⟨p, 1, none⟩ = some v1 ∧ w'.cell? ⟨p, 2, none⟩ = some v2 ∧ w'.cell? ⟨p, 3, none⟩ = some v3) ∧ Rest2 w q j w'
theorem s2_below {w : World} {p q j : Nat} {v0 v1 v2 v3 : Value} {w1 w2 : World} (h : S2 w p q j v0 v1 v2 v3 w1) (hb : Below w1.heap.size w1 w2) : S2 w p q j v0 v1 v2 v3 w2 := by
  obtain ⟨⟨c0, c1, c2, c3⟩, hB, hle, hlj, ⟨y0, y1, y2, y3, hq⟩, ⟨x0, x1, x2, x3, hj⟩⟩ := h
  have hp : p < w1.heap.size := World.block_lt_of_cell? w1 ⟨p, 0, none⟩ c0
  obtain ⟨hc, hf⟩ := bcell hb
  exact ⟨⟨by rw [hc _ _ hp]; exact c0, by rw [hc _ _ hp]; exact c1, by rw [hc _ _ hp]; exact c2, by rw [hc _ _ hp]; exact c3⟩, via (w := w) hB hb, hle, hlj, ⟨_, _, _, _, hq.below hb⟩, ⟨_, _, _, _, hj.below hb⟩⟩
theorem s2_drew {w : World} {p q j : Nat} {v0 v1 v2 v3 : Value} {w1 : World} (h : S2 w p q j v0 v1 v2 v3 w1) : S2 w p q j v0 v1 v2 v3 w1.drew := s2_below h (Below.refl _ _).drew
theorem s2_out {w : World} {p q j : Nat} {v0 v1 v2 v3 : Value} {w1 : World} (h : S2 w p q j v0 v1 v2 v3 w1) : Below w.heap.size w w1 := h.2.1
theorem s2_has {w : World} {p q j : Nat} {v0 v1 v2 v3 : Value} {w1 : World} (h : S2 w p q j v0 v1 v2 v3 w1) : ∃ x0 x1 x2 x3, Has4 w1 q x0 x1 x2 x3 := h.2.2.2.2.1
theorem has4_any {w : World} {k : Nat} (h : ∃ x0 x1 x2 x3, Has4 w k x0 x1 x2 x3) (j o : Nat) (v : Value) : ∃ x0 x1 x2 x3, Has4 (w.setCell ⟨j, o, none⟩ v) k x0 x1 x2 x3 := by
  obtain ⟨x0, x1, x2, x3, h⟩ := h
  by_cases hj : j = k
  · subst hj
    by_cases h0 : o = 0
    · subst h0; exact ⟨_, _, _, _, h.set0 v⟩
    by_cases h1 : o = 1
    · subst h1; exact ⟨_, _, _, _, h.set1 v⟩
    by_cases h2 : o = 2
    · subst h2; exact ⟨_, _, _, _, h.set2 v⟩
    by_cases h3 : o = 3
    · subst h3; exact ⟨_, _, _, _, h.set3 v⟩
    have e : ∀ x, x ≠ o → (w.setCell ⟨j, o, none⟩ v).cell? ⟨j, x, none⟩ = w.cell? ⟨j, x, none⟩ := fun x hx => World.cell?_setCell_other _ _ _ _ (by simp [hx])
    exact ⟨_, _, _, _, (e 0 (by omega)).trans h.c0, (e 1 (by omega)).trans h.c1, (e 2 (by omega)).trans h.c2, (e 3 (by omega)).trans h.c3, fun x => by simp [World.frozen?_setCell, h.fz x]⟩
  · exact ⟨_, _, _, _, h.set_far hj o v⟩
theorem s2_set {w : World} {p q j : Nat} {v0 v1 v2 v3 : Value} {w1 : World} {o : Nat} {v : Value} (hp : j ≠ p) (h : S2 w p q j v0 v1 v2 v3 w1) : S2 w p q j v0 v1 v2 v3 (w1.setCell ⟨j, o, none⟩ v) := by
  obtain ⟨⟨c0, c1, c2, c3⟩, hB, hle, hlj, hq, hj⟩ := h
  have e : ∀ x, (w1.setCell ⟨j, o, none⟩ v).cell? ⟨p, x, none⟩ = w1.cell? ⟨p, x, none⟩ := fun x => World.cell?_setCell_other _ _ _ _ (by simp [hp.symm])
  exact ⟨⟨by rw [e]; exact c0, by rw [e]; exact c1, by rw [e]; exact c2, by rw [e]; exact c3⟩, hB.setCell (p := ⟨j, o, none⟩) hlj v, hle, hlj, has4_any hq j o v, has4_any hj j o v⟩
end Go.Proofs.Ytageofpkfghllaa
