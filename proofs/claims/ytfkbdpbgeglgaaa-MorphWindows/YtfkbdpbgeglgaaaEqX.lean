/- Are two pixels the same? -/
import Derived.Test.YtfkbdpbgeglgaaaMBox
namespace Go.Proofs.Ytfkbdpbgeglgaaa
open Num Go.RowKit
set_option linter.unusedVariables false
set_option linter.unusedSimpArgs false

/-- are two pixels the same? -/
def eqB (r g b a p q s t : Int) : Bool := decide ((⟨r, g, b, a⟩ : X) = ⟨p, q, s, t⟩)
theorem eqX (r g b a p q s t : Int) (w : World) : (Op.equalIn 10000 33 (.agg #[.int .u8 r, .int .u8 g, .int .u8 b, .int .u8 a]) (.agg #[.int .u8 p, .int .u8 q, .int .u8 s, .int .u8 t])).run Try.prog w = .ok (eqB r g b a p q s t) w := by
  have u3 := Try.underlying5
  have a3 := Try.isAgg5
  have z3 := Try.sizeOf5
  rw [show (10000 : Nat) = 9999 + 1 from rfl, Op.equalIn]
  simp only [Sem.run_bind, run_underlying Try.underlying33, Result.andThen_ok]
  simp only [Std.Legacy.Range.forIn_eq_forIn_range', Std.Legacy.Range.size, Nat.sub_zero, Nat.add_sub_cancel, Nat.div_one, List.range'_succ, List.range'_zero, List.forIn_cons, List.forIn_nil]
  by_cases h1 : r = p
  · by_cases h2 : g = q
    · by_cases h3 : b = s
      · by_cases h4 : a = t
        · subst h1; subst h2; subst h3; subst h4; go_simp; simp [eqB]
        · subst h1; subst h2; subst h3; go_simp; simp [eqB, h4]
      · subst h1; subst h2; go_simp; simp [eqB, h3]
    · subst h1; go_simp; simp [eqB, h2]
  · go_simp; simp [eqB, h1]
theorem eqB_yes {p q : X} (h : p = q) : eqB p.c0 p.c1 p.c2 p.c3 q.c0 q.c1 q.c2 q.c3 = true := decide_eq_true h
theorem eqB_no {p q : X} (h : p ≠ q) : eqB p.c0 p.c1 p.c2 p.c3 q.c0 q.c1 q.c2 q.c3 = false := decide_eq_false h

end Go.Proofs.Ytfkbdpbgeglgaaa
