/- What is written of a block. -/
import Derived.Test.YtfkbdpbgeglgaaaGrows
import Derived.Test.YtfkbdpbgeglgaaaMorphNum
import Derived.Deep.LoopGhost
import Derived.Deep.Light
namespace Go.Proofs.Ytfkbdpbgeglgaaa
open Num Go.RowKit
set_option linter.unusedVariables false
set_option linter.unusedSimpArgs false

/-- of the block g, m cells from o on are written, no others; other blocks stay -/
structure Ch (g o m : Nat) (w w' : World) : Prop where
  but : But g w w'
  out : ∀ j, j < o ∨ o + m ≤ j → w'.cell? ⟨g, j, none⟩ = w.cell? ⟨g, j, none⟩
  fz : ∀ j, w'.frozen? ⟨g, j, none⟩ = w.frozen? ⟨g, j, none⟩
theorem Ch.refl (g o m : Nat) (w : World) : Ch g o m w w := ⟨But.refl _ _, fun _ _ => rfl, fun _ => rfl⟩
theorem Ch.trans {g o m : Nat} {x y z : World} (h : Ch g o m x y) (k : Ch g o m y z) : Ch g o m x z :=
  ⟨h.but.trans k.but, fun j hj => (k.out j hj).trans (h.out j hj), fun j => (k.fz j).trans (h.fz j)⟩
theorem Ch.wide {g o m o' m' : Nat} {x y : World} (h : Ch g o m x y) (h1 : o' ≤ o) (h2 : o + m ≤ o' + m') : Ch g o' m' x y :=
  ⟨h.but, fun j hj => h.out j (by omega), h.fz⟩
theorem Ch.of {g o m : Nat} {w w' : World} (hg : g < w.heap.size) (hb : Below w.heap.size w w') : Ch g o m w w' :=
  ⟨But.of hb, fun j _ => World.cell?_of_block (a := ⟨g, j, none⟩) (hb.block g hg), fun j => World.frozen?_of_block (a := ⟨g, j, none⟩) (hb.block g hg)⟩
theorem Ch.cell {g o m : Nat} {w w' : World} (h : Ch g o m w w') {j : Nat} (h1 : o ≤ j) (h2 : j < o + m) (v : Value) : Ch g o m w (w'.setCell ⟨g, j, none⟩ v) := by
  refine h.trans ⟨but_cell w' g j v, fun i hi => ?_, fun i => ?_⟩
  · rw [World.cell?_setCell_other _ _ _ _ (by intro h; injection h; omega)]
  · rw [World.frozen?_setCell]
theorem Ch.to {g o m : Nat} {w w' w'' : World} (h : Ch g o m w w') (hg : g < w.heap.size) (hb : Below w'.heap.size w' w'') : Ch g o m w w'' :=
  h.trans (Ch.of (Nat.lt_of_lt_of_le hg h.but.size) hb)

theorem index0 (x y z u : Int) (w : World) : (Instr.index 33 (.agg #[.int .u8 x, .int .u8 y, .int .u8 z, .int .u8 u]) (.int .i64 0)).run Try.prog w = .ok (.int .u8 x) w := by
  unfold Instr.index
  simp only [Sem.run_bind, run_underlying Try.underlying33, Result.andThen_ok]
  go_simp
theorem index1 (x y z u : Int) (w : World) : (Instr.index 33 (.agg #[.int .u8 x, .int .u8 y, .int .u8 z, .int .u8 u]) (.int .i64 1)).run Try.prog w = .ok (.int .u8 y) w := by
  unfold Instr.index
  simp only [Sem.run_bind, run_underlying Try.underlying33, Result.andThen_ok]
  go_simp
theorem index2 (x y z u : Int) (w : World) : (Instr.index 33 (.agg #[.int .u8 x, .int .u8 y, .int .u8 z, .int .u8 u]) (.int .i64 2)).run Try.prog w = .ok (.int .u8 z) w := by
  unfold Instr.index
  simp only [Sem.run_bind, run_underlying Try.underlying33, Result.andThen_ok]
  go_simp
theorem index3 (x y z u : Int) (w : World) : (Instr.index 33 (.agg #[.int .u8 x, .int .u8 y, .int .u8 z, .int .u8 u]) (.int .i64 3)).run Try.prog w = .ok (.int .u8 u) w := by
  unfold Instr.index
  simp only [Sem.run_bind, run_underlying Try.underlying33, Result.andThen_ok]
  go_simp

theorem Ch.other {g o m k : Nat} {w w1 w2 : World} (h : Ch g o m w w1) (hb : But k w1 w2) (hg : g < w.heap.size) (hk : w.heap.size ≤ k) : Ch g o m w w2 := by
  have e := hb.block g (Nat.lt_of_lt_of_le hg h.but.size) (by omega)
  refine ⟨⟨hb.os.trans h.but.os, hb.tape.trans h.but.tape, hb.output.trans h.but.output, Nat.le_trans h.but.size hb.size, fun i hi hig => ?_⟩, fun j hj => ?_, fun j => ?_⟩
  · exact (hb.block i (Nat.lt_of_lt_of_le hi h.but.size) (by omega)).trans (h.but.block i hi hig)
  · exact (World.cell?_of_block (a := ⟨g, j, none⟩) e).trans (h.out j hj)
  · exact (World.frozen?_of_block (a := ⟨g, j, none⟩) e).trans (h.fz j)
theorem line_snoc (F : Int → X) (m : Nat) : line F 0 ((m : Int) + 1) = line F 0 (m : Int) ++ [F (m : Int)] := by
  unfold line
  rw [show ((m : Int) + 1 - 0).toNat = m + 1 by omega, show ((m : Int) - 0).toNat = m by omega, List.range_succ, List.map_append]
  simp
theorem lies_snoc {w : World} {g o : Nat} {cs news : List Value} (h : Lies w g o cs) (h2 : Lies w g (o + cs.length) news) : Lies w g o (cs ++ news) := by
  intro j u hu
  by_cases hj : j < cs.length
  · rw [List.getElem?_append_left hj] at hu
    exact h j u hu
  · rw [List.getElem?_append_right (by omega)] at hu
    have := h2 _ _ hu
    rwa [show o + cs.length + (j - cs.length) = o + j by omega] at this
theorem lies_four {w : World} {g o : Nat} {v0 v1 v2 v3 : Value} (h0 : w.cell? ⟨g, o, none⟩ = some v0) (h1 : w.cell? ⟨g, o + 1, none⟩ = some v1) (h2 : w.cell? ⟨g, o + 2, none⟩ = some v2) (h3 : w.cell? ⟨g, o + 3, none⟩ = some v3) : Lies w g o [v0, v1, v2, v3] := by
  intro j u hu
  match j with
  | 0 => simp at hu; subst hu; exact h0
  | 1 => simp at hu; subst hu; exact h1
  | 2 => simp at hu; subst hu; exact h2
  | 3 => simp at hu; subst hu; exact h3
  | j + 4 => simp at hu
/-- four cells in a row, written -/
theorem set4o {w : World} {g o : Nat} (h0 : (w.cell? ⟨g, o, none⟩).isSome = true) (h1 : (w.cell? ⟨g, o + 1, none⟩).isSome = true) (h2 : (w.cell? ⟨g, o + 2, none⟩).isSome = true) (h3 : (w.cell? ⟨g, o + 3, none⟩).isSome = true) (v0 v1 v2 v3 : Value) :
    Lies ((((w.setCell ⟨g, o, none⟩ v0).setCell ⟨g, o + 1, none⟩ v1).setCell ⟨g, o + 2, none⟩ v2).setCell ⟨g, o + 3, none⟩ v3) g o [v0, v1, v2, v3] := by
  have e : (((w.setCell ⟨g, o, none⟩ v0).setCell ⟨g, o + 1, none⟩ v1).setCell ⟨g, o + 2, none⟩ v2).setCell ⟨g, o + 3, none⟩ v3 = w.setCells g o [v0, v1, v2, v3] := rfl
  rw [e]
  intro j u hu
  have hj : j < [v0, v1, v2, v3].length := (List.getElem?_eq_some_iff.1 hu).1
  have hr : ∀ j, j < [v0, v1, v2, v3].length → (w.cell? ⟨g, o + j, none⟩).isSome = true := by
    intro j hj
    match j with
    | 0 => exact h0
    | 1 => exact h1
    | 2 => exact h2
    | 3 => exact h3
    | j + 4 => exact absurd hj (by simp only [List.length_cons, List.length_nil]; omega)
  rw [World.cell?_setCells_in g _ o w hr j hj, ← hu, List.getElem?_eq_getElem hj]

/-- there is room for K pixels -/
def Room (w : World) (g o K : Nat) : Prop := ∀ j, j < K * 4 → (w.cell? ⟨g, o + j, none⟩).isSome = true ∧ w.frozen? ⟨g, o + j, none⟩ = false
/-- the mean's values fit -/
theorem w8 {n : Int} (h : 0 ≤ n ∧ n ≤ 255) : IntKind.u8.wrap n = n := by rw [IntKind.wrap_u8]; omega
theorem But.other {g k : Nat} {w w1 w2 : World} (h : But g w w1) (hb : But k w1 w2) (hk : w.heap.size ≤ k) : But g w w2 :=
  ⟨hb.os.trans h.os, hb.tape.trans h.tape, hb.output.trans h.output, Nat.le_trans h.size hb.size, fun i hi hig => (hb.block i (Nat.lt_of_lt_of_le hi h.size) (by omega)).trans (h.block i hi hig)⟩

theorem Below.ch {w w' : World} {k o m B : Nat} (h : Ch k o m w w') (hk : B ≤ k) (hB : B ≤ w.heap.size) : Below B w w' := h.but.low hk hB
end Go.Proofs.Ytfkbdpbgeglgaaa
