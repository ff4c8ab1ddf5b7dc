/- The fixed answers (awake), and the document's Right, as contracts. -/
import Derived.Test.YtageofpkfghllaaPx
namespace Go.Proofs.Ytageofpkfghllaa
open Num Go.RowKit
set_option linter.unusedVariables false
attribute [local go_sem ↓] Go.wp_at_zero Go.wp_at_succ

theorem right_yes {r g b a : Int} (h1 : r ≤ a) (h2 : g ≤ a) (h3 : b ≤ a) : rightB r g b a = true := by simp [rightB, h1, h2, h3]
theorem right_no {r g b a : Int} (h : ¬ (r ≤ a ∧ g ≤ a ∧ b ≤ a)) : rightB r g b a = false := by
  simp only [rightB, Bool.and_eq_false_iff, decide_eq_false_iff_not]; omega

theorem refRight_any (r g b a : Int) (w : World) (hr : 0 ≤ r ∧ r ≤ 255) (hg : 0 ≤ g ∧ g ≤ 255) (hb : 0 ≤ b ∧ b ≤ 255) (ha : 0 ≤ a ∧ a ≤ 255) :
    Calls Try.prog 11 #[.agg #[.int .u8 r, .int .u8 g, .int .u8 b, .int .u8 a]] w fun e w' => e = .returned (.bool (rightB r g b a)) ∧ ∃ (c : Array Value) (n : Nat), w' = (w.alloc (.cells c 24)).drewN n := by
  by_cases h1 : a < r
  · have e := right_no (r := r) (g := g) (b := b) (a := a) (by omega)
    go_enter Try.func11, Try.ntmps11
    go_wp2
    refine wp_loop_rounds 1 ?_
    rw [rounds_succ]
    go_wp2
    go_quiet (fail)
    go_wp2
    go_ret
    exact ⟨ret_bool e.symm, _, _, by first | rfl | (simp only [World.drewN_drewN]; rfl)⟩
  by_cases h2 : a < g
  · have e := right_no (r := r) (g := g) (b := b) (a := a) (by omega)
    go_enter Try.func11, Try.ntmps11
    go_wp2
    refine wp_loop_rounds 2 ?_
    rw [rounds_succ]
    go_wp2
    go_quiet (fail)
    go_wp2
    rw [rounds_succ]
    go_wp2
    go_quiet (fail)
    go_wp2
    go_ret
    exact ⟨ret_bool e.symm, _, _, by first | rfl | (simp only [World.drewN_drewN]; rfl)⟩
  by_cases h3 : a < b
  · have e := right_no (r := r) (g := g) (b := b) (a := a) (by omega)
    go_enter Try.func11, Try.ntmps11
    go_wp2
    refine wp_loop_rounds 3 ?_
    rw [rounds_succ]
    go_wp2
    go_quiet (fail)
    go_wp2
    rw [rounds_succ]
    go_wp2
    go_quiet (fail)
    go_wp2
    rw [rounds_succ]
    go_wp2
    go_quiet (fail)
    go_wp2
    go_ret
    exact ⟨ret_bool e.symm, _, _, by first | rfl | (simp only [World.drewN_drewN]; rfl)⟩
  · have e := right_yes (r := r) (g := g) (b := b) (a := a) (by omega) (by omega) (by omega)
    go_enter Try.func11, Try.ntmps11
    go_wp2
    refine wp_loop_rounds 4 ?_
    rw [rounds_succ]
    go_wp2
    go_quiet (fail)
    go_wp2
    rw [rounds_succ]
    go_wp2
    go_quiet (fail)
    go_wp2
    rw [rounds_succ]
    go_wp2
    go_quiet (fail)
    go_wp2
    rw [rounds_succ]
    go_wp2
    go_ret
    exact ⟨ret_bool e.symm, _, _, by first | rfl | (simp only [World.drewN_drewN]; rfl)⟩

/-- two pixels that are the same are equal -/
theorem eqPx (r g b a : Int) (w : World) : (Op.equalIn 10000 24 (.agg #[.int .u8 r, .int .u8 g, .int .u8 b, .int .u8 a]) (.agg #[.int .u8 r, .int .u8 g, .int .u8 b, .int .u8 a])).run Try.prog w = .ok true w := by
  have u3 := Try.underlying5
  have a3 := Try.isAgg5
  have z3 := Try.sizeOf5
  rw [show (10000 : Nat) = 9999 + 1 from rfl, Op.equalIn]
  simp only [Sem.run_bind, run_underlying Try.underlying24, Result.andThen_ok]
  simp only [Std.Legacy.Range.forIn_eq_forIn_range', Std.Legacy.Range.size, Nat.sub_zero, Nat.add_sub_cancel, Nat.div_one, List.range'_succ, List.range'_zero, List.forIn_cons, List.forIn_nil]
  go_simp

end Go.Proofs.Ytageofpkfghllaa
