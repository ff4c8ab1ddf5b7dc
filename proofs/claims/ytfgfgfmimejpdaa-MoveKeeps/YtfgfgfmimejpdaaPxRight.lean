/- Whether a pixel is right, as the document has it: the contract. -/
import Derived.Test.YtfgfgfmimejpdaaMean
import Derived.BigQuiet
import Derived.Deep.QuietTactic
namespace Go.Proofs.Ytfgfgfmimejpdaa
open Num Go.RowKit
set_option linter.unusedVariables false
set_option linter.unusedSimpArgs false

def rgtB (p : X) : Bool := decide (p.c0 ≤ p.c3 ∧ p.c1 ≤ p.c3 ∧ p.c2 ≤ p.c3)
theorem rgt_of {p : X} (h : rgtB p = true) : rightX p := of_decide_eq_true (p := p.c0 ≤ p.c3 ∧ p.c1 ≤ p.c3 ∧ p.c2 ≤ p.c3) h
theorem of_rgt {p : X} (h : rightX p) : rgtB p = true := by unfold rgtB; exact decide_eq_true (show p.c0 ≤ p.c3 ∧ p.c1 ≤ p.c3 ∧ p.c2 ≤ p.c3 from h)
set_option maxHeartbeats 1000000 in
theorem pxRight_any (p : X) (w : World) : Calls Try.prog 14 #[.agg #[.int .u8 p.c0, .int .u8 p.c1, .int .u8 p.c2, .int .u8 p.c3]] w fun e w' => e = .returned (.bool (rgtB p)) ∧ Below w.heap.size w w' := by
  have HB : Hid (Below w.heap.size w (w.alloc (.cells #[.int .u8 p.c0, .int .u8 p.c1, .int .u8 p.c2, .int .u8 p.c3] 28))) := (Below.refl _ _).alloc (Nat.le_refl _) _
  by_cases h1 : p.c3 < p.c0
  · have e : rgtB p = false := decide_eq_false (by omega)
    go_enter Try.func14, Try.ntmps14
    go_wp2
    refine wp_loop_rounds 1 ?_
    rw [rounds_succ]
    go_wp2
    go_quiet (fail)
    go_wp2
    go_ret
    exact ⟨ret_bool e.symm, by repeat (first | with_reducible exact HB.out | with_reducible refine below_drewN ?_ _)⟩
  by_cases h2 : p.c3 < p.c1
  · have e : rgtB p = false := decide_eq_false (by omega)
    go_enter Try.func14, Try.ntmps14
    go_wp2
    refine wp_loop_rounds 2 ?_
    rw [rounds_succ]
    go_wp2
    go_quiet (fail)
    go_wp2
    rw [rounds_succ]
    go_wp2
    go_quiet (fail)
    go_wp2
    go_ret
    exact ⟨ret_bool e.symm, by repeat (first | with_reducible exact HB.out | with_reducible refine below_drewN ?_ _)⟩
  by_cases h3 : p.c3 < p.c2
  · have e : rgtB p = false := decide_eq_false (by omega)
    go_enter Try.func14, Try.ntmps14
    go_wp2
    refine wp_loop_rounds 3 ?_
    rw [rounds_succ]
    go_wp2
    go_quiet (fail)
    go_wp2
    rw [rounds_succ]
    go_wp2
    go_quiet (fail)
    go_wp2
    rw [rounds_succ]
    go_wp2
    go_quiet (fail)
    go_wp2
    go_ret
    exact ⟨ret_bool e.symm, by repeat (first | with_reducible exact HB.out | with_reducible refine below_drewN ?_ _)⟩
  have e : rgtB p = true := decide_eq_true (by omega)
  go_enter Try.func14, Try.ntmps14
  go_wp2
  refine wp_loop_rounds 4 ?_
  rw [rounds_succ]
  go_wp2
  go_quiet (fail)
  go_wp2
  rw [rounds_succ]
  go_wp2
  go_quiet (fail)
  go_wp2
  rw [rounds_succ]
  go_wp2
  go_quiet (fail)
  go_wp2
  rw [rounds_succ]
  go_wp2
  go_ret
  exact ⟨ret_bool e.symm, by repeat (first | with_reducible exact HB.out | with_reducible refine below_drewN ?_ _)⟩
end Go.Proofs.Ytfgfgfmimejpdaa
