/- The fixed answers (awake), as a contract. -/
import Derived.Test.YtdceglpkhggkmaaRefs
import Derived.Test.YtdceglpkhggkmaaAreas
namespace Go.Proofs.Ytdceglpkhggkmaa
open Num Go.RowKit
set_option linter.unusedVariables false
set_option linter.unusedSimpArgs false

set_option maxHeartbeats 1000000 in
theorem awake_any (w : World) : Calls Try.prog 8 #[] w fun e w' => e = .returned (.bool true) ∧ Below w.heap.size w w' := by
  have m1 : meet ⟨0, 0, 4, 4⟩ ⟨2, 2, 9, 9⟩ = ⟨2, 2, 4, 4⟩ := rfl
  have m2 : join ⟨0, 0, 1, 1⟩ ⟨5, 5, 6, 6⟩ = ⟨0, 0, 6, 6⟩ := rfl
  have m3 : grow ⟨0, 0, 1, 1⟩ 1 2 3 4 = ⟨-1, -2, 4, 5⟩ := rfl
  have m4 : area ⟨1, 1, 3, 4⟩ = 6 := by decide
  have m5 : hasB ⟨0, 0, 2, 2⟩ 1 1 = true := by decide
  have m6 : hasB ⟨0, 0, 2, 2⟩ 2 1 = false := by decide
  have hB0 := Below.refl w.heap.size w
  go_enter Try.func8, Try.ntmps8
  go_wp2_with (first | (go_at_call 19; refine (of_any _ _ _ _ _).mono ?_; rintro e w' ⟨rfl, hb⟩; replace hb := via (w := w) (by with_reducible assumption) hb) | (go_at_call 17; refine (meet_any _ _ _ _ _ _ _ _ _).mono ?_; rintro e w' ⟨rfl, hb⟩; replace hb := via (w := w) (by with_reducible assumption) hb) | (go_at_call 18; refine (join_any _ _ _ _ _ _ _ _ _).mono ?_; rintro e w' ⟨rfl, hb⟩; replace hb := via (w := w) (by with_reducible assumption) hb) | (go_at_call 11; refine (grow_any _ _ _ _ _ _ _ _ _ (by unfold Ok; decide) (by decide) (by decide) (by decide) (by decide)).mono ?_; rintro e w' ⟨rfl, hb⟩; replace hb := via (w := w) (by with_reducible assumption) hb) | (go_at_call 13; refine (area_any _ _ _ _ _ (by unfold Ok; decide)).mono ?_; rintro e w' ⟨rfl, hb⟩; replace hb := via (w := w) (by with_reducible assumption) hb) | (go_at_call 15; refine (has_any _ _ _ _ _ _ _).mono ?_; rintro e w' ⟨rfl, hb⟩; replace hb := via (w := w) (by with_reducible assumption) hb))
  go_ret
  exact ⟨rfl, by assumption⟩
end Go.Proofs.Ytdceglpkhggkmaa
