/- What the laws need besides: whether a pixel is right, at any world; calm, written out. -/
import Derived.Test.YtageofpkfghllaaAwake
namespace Go.Proofs.Ytageofpkfghllaa
open Num Go.RowKit
set_option linter.unusedVariables false
set_option linter.unusedSimpArgs false

theorem right_b (r g b a : Int) (w : World) (hr : 0 ≤ r ∧ r ≤ 255) (hg : 0 ≤ g ∧ g ≤ 255) (hb : 0 ≤ b ∧ b ≤ 255) (ha : 0 ≤ a ∧ a ≤ 255) :
    Calls Try.prog 15 #[.agg #[.int .u8 r, .int .u8 g, .int .u8 b, .int .u8 a]] w fun e w' => e = .returned (.bool (rightB r g b a)) ∧ Below w.heap.size w w' := by
  refine (right_any r g b a w hr hg hb ha).mono ?_
  rintro e w' ⟨rfl, c, rfl⟩
  exact ⟨rfl, by go_grown⟩
theorem refRight_b (r g b a : Int) (w : World) (hr : 0 ≤ r ∧ r ≤ 255) (hg : 0 ≤ g ∧ g ≤ 255) (hb : 0 ≤ b ∧ b ≤ 255) (ha : 0 ≤ a ∧ a ≤ 255) :
    Calls Try.prog 11 #[.agg #[.int .u8 r, .int .u8 g, .int .u8 b, .int .u8 a]] w fun e w' => e = .returned (.bool (rightB r g b a)) ∧ Below w.heap.size w w' := by
  refine (refRight_any r g b a w hr hg hb ha).mono ?_
  rintro e w' ⟨rfl, c, n, rfl⟩
  exact ⟨rfl, below_drewN (by go_grown) _⟩
theorem calm_b (ao : Option Addr) (n c b off : Nat) (l : List Int) (w : World) (h : Vi w ao n c b off l) (hM : rightM l = true) :
    Calls Try.prog 14 #[.slice ao n c] w fun e w' => e = .returned (.bool (eq4 (colI l 0 0 0 0 0) (colI l 5 0 0 0 0) (colI l 10 0 0 0 0) (plnI l 15 0 0 0 0) 0 0 0 0)) ∧ Below w.heap.size w w' :=
  calm_any ao n c b off l w h hM
end Go.Proofs.Ytageofpkfghllaa
