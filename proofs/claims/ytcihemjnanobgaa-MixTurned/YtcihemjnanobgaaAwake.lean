/- The fixed answers (awake), and whether two pixels are right, as contracts. -/
import Derived.Test.YtcihemjnanobgaaBlends
namespace Go.Proofs.Ytcihemjnanobgaa
open Num Go.RowKit
set_option linter.unusedVariables false
set_option linter.unusedSimpArgs false

set_option maxHeartbeats 1000000 in
theorem awake_any (w : World) : Calls Try.prog 10 #[] w fun e w' => e = .returned (.bool true) ∧ Below w.heap.size w w' := by
  have hE := eqPx
  have m1 : bl 1 255 128 255 255 = 128 := by decide
  have m2 : bl 1 0 128 255 255 = 0 := by decide
  have m3 : ba 1 255 255 = 255 := by decide
  have c1 : cmp 1 9 0 9 128 = 5 := by decide
  have c2 : cmp 1 9 128 9 128 = 5 := by decide
  have o1 : bl 0 (mulI 9 0) 1 (mulI 9 0) 4 = 1 := by decide
  have o2 : bl 0 (mulI 9 0) 2 (mulI 9 0) 4 = 2 := by decide
  have o3 : bl 0 (mulI 9 0) 3 (mulI 9 0) 4 = 3 := by decide
  have o4 : ba 0 (mulI 9 0) 4 = 4 := by decide
  have hB0 := Below.refl w.heap.size w
  go_enter Try.func10, Try.ntmps10
  go_wp2_with (first | (go_at_call 13; refine (blend_any _ _ _ _ _ _ _ _ _ _ (by decide) (by decide) (by decide) (by decide) (by decide) (by decide) (by decide) (by decide) (by decide)).mono ?_; rintro e w' ⟨rfl, hb⟩; replace hb := via (w := w) (by with_reducible assumption) hb) | (go_at_call 11; refine (comp_any _ _ _ _ _ _ _ _ _ _ (by decide) (by decide) (by decide) (by decide) (by decide) (by decide) (by decide) (by decide) (by decide)).mono ?_; rintro e w' ⟨rfl, hb⟩; replace hb := via (w := w) (by with_reducible assumption) hb) | (go_at_call 15; refine (onto_any _ _ _ _ _ _ _ _ _ _ _ (by decide) (by decide) (by decide) (by decide) (by decide) (by decide) (by decide) (by decide) (by decide) (by decide)).mono ?_; rintro e w' ⟨rfl, hb⟩; replace hb := via (w := w) (by with_reducible assumption) hb))
  go_ret
  exact ⟨rfl, by assumption⟩

theorem both_any (r g b a p q s c : Int) (w : World) (hr : 0 ≤ r ∧ r ≤ 255) (hg : 0 ≤ g ∧ g ≤ 255) (hb : 0 ≤ b ∧ b ≤ 255) (ha : 0 ≤ a ∧ a ≤ 255) (hp : 0 ≤ p ∧ p ≤ 255) (hq : 0 ≤ q ∧ q ≤ 255) (hs : 0 ≤ s ∧ s ≤ 255) (hc : 0 ≤ c ∧ c ≤ 255) :
    Calls Try.prog 9 #[.agg #[.int .u8 r, .int .u8 g, .int .u8 b, .int .u8 a], .agg #[.int .u8 p, .int .u8 q, .int .u8 s, .int .u8 c]] w fun e w' => e = .returned (.bool (rightB r g b a && rightB p q s c)) ∧ Below w.heap.size w w' := by
  have hS : Sz w w.heap.size (w.heap.size + 1) (.int .u8 r) (.int .u8 g) (.int .u8 b) (.int .u8 a) (.int .u8 p) (.int .u8 q) (.int .u8 s) (.int .u8 c) ((w.alloc (.cells #[.int .u8 r, .int .u8 g, .int .u8 b, .int .u8 a] 23)).alloc (.cells #[.int .u8 p, .int .u8 q, .int .u8 s, .int .u8 c] 23)) := by
    have g1 : Has4 ((w.alloc (.cells #[.int .u8 r, .int .u8 g, .int .u8 b, .int .u8 a] 23)).alloc (.cells #[.int .u8 p, .int .u8 q, .int .u8 s, .int .u8 c] 23)) w.heap.size (.int .u8 r) (.int .u8 g) (.int .u8 b) (.int .u8 a) := (Has4.new rfl _ _ _ _ _).alloc _
    have g2 : Has4 ((w.alloc (.cells #[.int .u8 r, .int .u8 g, .int .u8 b, .int .u8 a] 23)).alloc (.cells #[.int .u8 p, .int .u8 q, .int .u8 s, .int .u8 c] 23)) (w.heap.size + 1) (.int .u8 p) (.int .u8 q) (.int .u8 s) (.int .u8 c) := Has4.new (by simp) _ _ _ _ _
    exact ⟨⟨g1.c0, g1.c1, g1.c2, g1.c3⟩, ⟨g2.c0, g2.c1, g2.c2, g2.c3⟩, show Below w.heap.size w _ by go_grown⟩
  rcases hR : rightB r g b a with _ | _ <;> rcases hR' : rightB p q s c with _ | _
  all_goals
    go_enter Try.func9, Try.ntmps9
    go_wp2_with (go_at_call 18; with_reducible refine Calls.mono (refRight_b _ _ _ _ _ ‹_› ‹_› ‹_› ‹_›) ?_; rintro e w' ⟨rfl, hb⟩; replace hS := sz_below hS hb; clear hb; obtain ⟨⟨p0, p1, p2, p3⟩, ⟨q0, q1, q2, q3⟩, hB⟩ := id hS)
    go_ret
    exact ⟨rfl, sz_out hS⟩
end Go.Proofs.Ytcihemjnanobgaa
