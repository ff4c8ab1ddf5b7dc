/- Rows so far. -/
import Derived.Test.YtfkbdpbgeglgaaaImg
namespace Go.Proofs.Ytfkbdpbgeglgaaa
open Num
set_option linter.unusedVariables false

/-- rows so far -/
def tillG (u : Int → Int → X) (y : Int) (x v : Int) : X := if v < y then u x v else noX
theorem till_row {Q : R} {u : Int → Int → X} {y : Int} : img Q (putG (tillG u y) y Q.x0 Q.x1 (fun x => u x y)) = img Q (tillG u (y + 1)) := by
  apply img_ext
  intro x v hb
  have := of_decide_eq_true hb
  unfold putG tillG
  by_cases h1 : v = y
  · subst h1
    rw [if_pos (by omega), if_pos (by omega)]
  · rw [if_neg (by omega)]
    by_cases h2 : v < y
    · rw [if_pos h2, if_pos (by omega)]
    · rw [if_neg h2, if_neg (by omega)]
theorem till_first {Q : R} {u : Int → Int → X} : img Q (fun _ _ => noX) = img Q (tillG u Q.y0) := by
  apply img_ext
  intro x v hb
  have := of_decide_eq_true hb
  unfold tillG
  rw [if_neg (by omega)]
theorem till_last {Q : R} {u : Int → Int → X} : img Q (tillG u Q.y1) = img Q u := by
  apply img_ext
  intro x v hb
  have := of_decide_eq_true hb
  unfold tillG
  rw [if_pos (by omega)]

end Go.Proofs.Ytfkbdpbgeglgaaa
