/- The mean of sums: the contract. -/
import Derived.Test.YtfgfgfmimejpdaaSums
import Derived.BigQuiet
import Derived.Deep.QuietTactic
namespace Go.Proofs.Ytfgfgfmimejpdaa
open Num Go.RowKit
set_option linter.unusedVariables false
set_option linter.unusedSimpArgs false

/-- the mean's values fit -/
theorem w8 {n : Int} (h : 0 ≤ n ∧ n ≤ 255) : IntKind.u8.wrap n = n := by rw [IntKind.wrap_u8]; omega
theorem mean_any (k o : Nat) (s : X) (r : Nat) (w : World) (h : Us w k o s) (hr : r ≤ 255) (hs : upX (255 * (2 * (r : Int) + 1)) s) :
    Calls Try.prog 95 #[.pointer (some ⟨k, o, none⟩), .int .i64 (r : Int)] w fun e w' => e = .returned (pxV (meanX s (r : Int))) ∧ Below w.heap.size w w' := by
  obtain ⟨⟨a0, a1⟩, ⟨a2, a3⟩, ⟨a4, a5⟩, a6, a7⟩ := hs
  have m0 := mean_bd (r := (r : Int)) (by omega) a0 a1
  have m1 := mean_bd (r := (r : Int)) (by omega) a2 a3
  have m2 := mean_bd (r := (r : Int)) (by omega) a4 a5
  have m3 := mean_bd (r := (r : Int)) (by omega) a6 a7
  unfold meanI at m0 m1 m2 m3
  have w0 : IntKind.u32.wrap (r : Int) = (r : Int) := w32 (by omega)
  have w1 : IntKind.u32.wrap (2 * (r : Int)) = 2 * (r : Int) := w32 (by omega)
  have w2 : IntKind.u32.wrap (2 * (r : Int) + 1) = 2 * (r : Int) + 1 := w32 (by omega)
  have v0 : IntKind.u32.wrap (s.c0 + (r : Int)) = s.c0 + (r : Int) := w32 (by omega)
  have v1 : IntKind.u32.wrap (s.c1 + (r : Int)) = s.c1 + (r : Int) := w32 (by omega)
  have v2 : IntKind.u32.wrap (s.c2 + (r : Int)) = s.c2 + (r : Int) := w32 (by omega)
  have v3 : IntKind.u32.wrap (s.c3 + (r : Int)) = s.c3 + (r : Int) := w32 (by omega)
  have z0 : 0 < 2 * (r : Int) + 1 := by omega
  have hlt := h.lt
  obtain ⟨c0, c1, c2, c3, cf⟩ := h
  go_enter Try.func95, Try.ntmps95
  go_wp2
  refine wp_loop_rounds 5 ?_
  rw [rounds_succ]
  go_wp2
  go_quiet (fail)
  go_wp2
  rw [rounds_succ]
  go_wp2
  go_quiet (fail)
  go_wp2
  rw [rounds_succ]
  go_wp2
  go_quiet (fail)
  go_wp2
  rw [rounds_succ]
  go_wp2
  go_quiet (fail)
  go_wp2
  rw [rounds_succ]
  go_wp2
  refine bodyPost_ret (v := pxV (meanX s (r : Int))) ?_ rfl ⟨rfl, ?_⟩
  · simp [results, Try.results95, go_sem, meanX, meanI]
  · repeat (first | with_reducible exact Below.refl _ _ | with_reducible refine below_drewN ?_ _ | with_reducible refine Below.setCell ?_ (by dsimp only; omega) _ | with_reducible refine Below.alloc ?_ (by simp) _)
end Go.Proofs.Ytfgfgfmimejpdaa
