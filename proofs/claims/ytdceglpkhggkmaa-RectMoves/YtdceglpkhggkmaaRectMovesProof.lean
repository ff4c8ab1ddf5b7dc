/- Of every rectangle within the plane, and all numbers within it: moved, grown, and how many points it has, the program answers what the document does; no condition. -/
import Derived.Test.YtdceglpkhggkmaaRows
import Derived.WalkKit
import Derived.ProofKit
import Derived.OpenShut
import Derived.Test.YtdceglpkhggkmaaOpen
import Derived.Test.YtdceglpkhggkmaaLaws
namespace Go.Proofs.Ytdceglpkhggkmaa.rectMoves
open Go.ChangeShapes Go.WideShapes Go.ChangeAt Go.RowKit Num
set_option linter.unusedVariables false
set_option linter.unusedSimpArgs false

set_option maxHeartbeats 2000000 in
theorem walk (a b c d k l m n : Int) (w : World) (b0 : -9223372036854775808 ≤ a ∧ a ≤ 9223372036854775807) (b1 : -9223372036854775808 ≤ b ∧ b ≤ 9223372036854775807) (b2 : -9223372036854775808 ≤ c ∧ c ≤ 9223372036854775807) (b3 : -9223372036854775808 ≤ d ∧ d ≤ 9223372036854775807) (b4 : -9223372036854775808 ≤ k ∧ k ≤ 9223372036854775807) (b5 : -9223372036854775808 ≤ l ∧ l ≤ 9223372036854775807) (b6 : -9223372036854775808 ≤ m ∧ m ≤ 9223372036854775807) (b7 : -9223372036854775808 ≤ n ∧ n ≤ 9223372036854775807) :
    Calls Try.prog 3 #[.agg #[.int .i64 a, .int .i64 b, .int .i64 c, .int .i64 d], .int .i64 k, .int .i64 l, .int .i64 m, .int .i64 n] w fun e w' => e = .returned (.bool true) ∧ Below w.heap.size w w' := by
  clear b0 b1 b2 b3 b4 b5 b6 b7
  rcases hR : rightB ⟨a, b, c, d⟩ with _ | _
  · skip
    go_enter Try.func3, Try.ntmps3
    go_wp2_with (first | (go_at_call 6; refine (right_any _ _ _ _ _).mono ?_; rintro e w' ⟨rfl, hb⟩; have hB := via (w := w) (by go_grown) hb; have hP : Has4 w' w.heap.size (.int .i64 a) (.int .i64 b) (.int .i64 c) (.int .i64 d) := (Has4.new rfl _ _ _ _ _).below hb; clear hb; obtain ⟨p0, p1, p2, p3, pf⟩ := id hP) | (go_at_call 7; refine (near_any _ _).mono ?_; rintro e w1 ⟨rfl, hw⟩; replace hw := hw.symm; subst hw) | (go_at_call 8; refine (awake_any _).mono ?_; rintro e w2 ⟨rfl, hb⟩; replace hb := via hB hb))
    go_ret
    exact ⟨rfl, hb⟩
  · skip
    rcases hK : nearB k with _ | _
    · skip
      go_enter Try.func3, Try.ntmps3
      go_wp2_with (first | (go_at_call 6; refine (right_any _ _ _ _ _).mono ?_; rintro e w' ⟨rfl, hb⟩; have hB := via (w := w) (by go_grown) hb; have hP : Has4 w' w.heap.size (.int .i64 a) (.int .i64 b) (.int .i64 c) (.int .i64 d) := (Has4.new rfl _ _ _ _ _).below hb; clear hb; obtain ⟨p0, p1, p2, p3, pf⟩ := id hP) | (go_at_call 7; refine (near_any _ _).mono ?_; rintro e w1 ⟨rfl, hw⟩; replace hw := hw.symm; subst hw) | (go_at_call 8; refine (awake_any _).mono ?_; rintro e w2 ⟨rfl, hb⟩; replace hb := via hB hb))
      go_ret
      exact ⟨rfl, hb⟩
    · skip
      rcases hL : nearB l with _ | _
      · skip
        go_enter Try.func3, Try.ntmps3
        go_wp2_with (first | (go_at_call 6; refine (right_any _ _ _ _ _).mono ?_; rintro e w' ⟨rfl, hb⟩; have hB := via (w := w) (by go_grown) hb; have hP : Has4 w' w.heap.size (.int .i64 a) (.int .i64 b) (.int .i64 c) (.int .i64 d) := (Has4.new rfl _ _ _ _ _).below hb; clear hb; obtain ⟨p0, p1, p2, p3, pf⟩ := id hP) | (go_at_call 7; refine (near_any _ _).mono ?_; rintro e w1 ⟨rfl, hw⟩; replace hw := hw.symm; subst hw) | (go_at_call 8; refine (awake_any _).mono ?_; rintro e w2 ⟨rfl, hb⟩; replace hb := via hB hb))
        go_ret
        exact ⟨rfl, hb⟩
      · skip
        rcases hM : nearB m with _ | _
        · skip
          go_enter Try.func3, Try.ntmps3
          go_wp2_with (first | (go_at_call 6; refine (right_any _ _ _ _ _).mono ?_; rintro e w' ⟨rfl, hb⟩; have hB := via (w := w) (by go_grown) hb; have hP : Has4 w' w.heap.size (.int .i64 a) (.int .i64 b) (.int .i64 c) (.int .i64 d) := (Has4.new rfl _ _ _ _ _).below hb; clear hb; obtain ⟨p0, p1, p2, p3, pf⟩ := id hP) | (go_at_call 7; refine (near_any _ _).mono ?_; rintro e w1 ⟨rfl, hw⟩; replace hw := hw.symm; subst hw) | (go_at_call 8; refine (awake_any _).mono ?_; rintro e w2 ⟨rfl, hb⟩; replace hb := via hB hb))
          go_ret
          exact ⟨rfl, hb⟩
        · skip
          rcases hN : nearB n with _ | _
          · skip
            go_enter Try.func3, Try.ntmps3
            go_wp2_with (first | (go_at_call 6; refine (right_any _ _ _ _ _).mono ?_; rintro e w' ⟨rfl, hb⟩; have hB := via (w := w) (by go_grown) hb; have hP : Has4 w' w.heap.size (.int .i64 a) (.int .i64 b) (.int .i64 c) (.int .i64 d) := (Has4.new rfl _ _ _ _ _).below hb; clear hb; obtain ⟨p0, p1, p2, p3, pf⟩ := id hP) | (go_at_call 7; refine (near_any _ _).mono ?_; rintro e w1 ⟨rfl, hw⟩; replace hw := hw.symm; subst hw) | (go_at_call 8; refine (awake_any _).mono ?_; rintro e w2 ⟨rfl, hb⟩; replace hb := via hB hb))
            go_ret
            exact ⟨rfl, hb⟩
          · skip
            by_cases hG : m < 0
            · skip
              go_enter Try.func3, Try.ntmps3
              go_wp2_with (first | (go_at_call 6; refine (right_any _ _ _ _ _).mono ?_; rintro e w' ⟨rfl, hb⟩; have hB := via (w := w) (by go_grown) hb; have hP : Has4 w' w.heap.size (.int .i64 a) (.int .i64 b) (.int .i64 c) (.int .i64 d) := (Has4.new rfl _ _ _ _ _).below hb; clear hb; obtain ⟨p0, p1, p2, p3, pf⟩ := id hP) | (go_at_call 7; refine (near_any _ _).mono ?_; rintro e w1 ⟨rfl, hw⟩; replace hw := hw.symm; subst hw) | (go_at_call 8; refine (awake_any _).mono ?_; rintro e w2 ⟨rfl, hb⟩; replace hb := via hB hb))
              go_ret
              exact ⟨rfl, hb⟩
            · skip
              by_cases hJ : n < 0
              · skip
                go_enter Try.func3, Try.ntmps3
                go_wp2_with (first | (go_at_call 6; refine (right_any _ _ _ _ _).mono ?_; rintro e w' ⟨rfl, hb⟩; have hB := via (w := w) (by go_grown) hb; have hP : Has4 w' w.heap.size (.int .i64 a) (.int .i64 b) (.int .i64 c) (.int .i64 d) := (Has4.new rfl _ _ _ _ _).below hb; clear hb; obtain ⟨p0, p1, p2, p3, pf⟩ := id hP) | (go_at_call 7; refine (near_any _ _).mono ?_; rintro e w1 ⟨rfl, hw⟩; replace hw := hw.symm; subst hw) | (go_at_call 8; refine (awake_any _).mono ?_; rintro e w2 ⟨rfl, hb⟩; replace hb := via hB hb))
                go_ret
                exact ⟨rfl, hb⟩
              · skip
                have ho := ok_of hR
                have nk := near_of hK
                have nl := near_of hL
                have nm := near_of hM
                have nn := near_of hN
                go_enter Try.func3, Try.ntmps3
                go_wp2_with (first | (go_at_call 6; refine (right_any _ _ _ _ _).mono ?_; rintro e w' ⟨rfl, hb⟩; have hB := via (w := w) (by go_grown) hb; have hP : Has4 w' w.heap.size (.int .i64 a) (.int .i64 b) (.int .i64 c) (.int .i64 d) := (Has4.new rfl _ _ _ _ _).below hb; clear hb; obtain ⟨p0, p1, p2, p3, pf⟩ := id hP) | (go_at_call 7; refine (near_any _ _).mono ?_; rintro e w1 ⟨rfl, hw⟩; replace hw := hw.symm; subst hw))
                have hS : Sy w w.heap.size (.int .i64 a) (.int .i64 b) (.int .i64 c) (.int .i64 d) w' := ⟨⟨p0, p1, p2, p3⟩, hB⟩
                go_region_held3 (fun w' => (w'.cell? ⟨w.heap.size, 0, none⟩ = some (.int .i64 a) ∧ w'.cell? ⟨w.heap.size, 1, none⟩ = some (.int .i64 b) ∧ w'.cell? ⟨w.heap.size, 2, none⟩ = some (.int .i64 c) ∧ w'.cell? ⟨w.heap.size, 3, none⟩ = some (.int .i64 d)) ∧ Kept w w') (repeat (first | with_reducible assumption | with_reducible refine sy_drew ?_ | with_reducible refine sy_below ?_ ‹_›)) ((first | (go_at_call 8; refine (awake_any _).mono ?_; rintro e w1 ⟨rfl, hb⟩) | (go_at_call 9; refine (move_any _ _ _ _ _ _ _ ho nk nl).mono ?_; rintro e w1 ⟨rfl, hb⟩) | (go_at_call 10; refine (refMove_any _ _ _ _ _ _ _ ho nk nl).mono ?_; rintro e w1 ⟨rfl, hb⟩) | (go_at_call 11; refine (grow_any _ _ _ _ _ _ _ _ _ ho (by omega) (by omega) (by omega) (by omega)).mono ?_; rintro e w1 ⟨rfl, hb⟩) | (go_at_call 12; refine (refGrow_any _ _ _ _ _ _ _ _ _ ho (by omega) (by omega) (by omega) (by omega)).mono ?_; rintro e w1 ⟨rfl, hb⟩) | (go_at_call 13; refine (area_any _ _ _ _ _ ho).mono ?_; rintro e w1 ⟨rfl, hb⟩) | (go_at_call 14; refine (refArea_any _ _ _ _ _ ho).mono ?_; rintro e w1 ⟨rfl, hb⟩)))
                go_wp2
                go_ret
                exact ⟨rfl, sy_out (p := w.heap.size) (v0 := .int .i64 a) (v1 := .int .i64 b) (v2 := .int .i64 c) (v3 := .int .i64 d) (by repeat (first | with_reducible assumption | with_reducible refine sy_drew ?_ | with_reducible refine sy_below ?_ ‹_›))⟩

theorem own : ownKnob Try.prog.godebug = none := by kernel_rfl

set_option maxRecDepth 100000 in
theorem lifted (os : Os) (started : os.Started) (H : Type) (enc : TypeId × Value → H) :
    ReturnsInHanded {} Try.checked os 3 .any (Rows.rectMovesSpec.pre6 enc Try.prog Try.f3 Rows.rectMovesRow.domain false) (Rows.rectMovesSpec.post enc Try.prog Try.f3 false true false false) := by
  refine returnsInHanded_of_change (C := Try.checked) own started (by kernel_rfl) Try.func3
    (ChangeSpec.witness6 (enc := enc) (C := Try.checked) false ⟨#[], #[.agg #[.int .i64 0, .int .i64 0, .int .i64 0, .int .i64 0], .int .i64 0, .int .i64 0, .int .i64 0, .int .i64 0], []⟩ 8 (by kernel_rfl) (by kernel_rfl) (by kernel_rfl) (by kernel_rfl)) ?_
  intro W base args ds gs before hval0 hW hcnd _
  have hval : ∀ (j : Nat) t v, Try.f3.params[j]? = some t → args[j]? = some v → Value.okWide Try.prog W .any base t v := hval0
  have hW' := hW
  obtain ⟨p, q, hA0, hV, rfl, hfz, hnd⟩ := hW
  have hA : DataW.TrodAll enc Try.prog W 0 (fun _ => true) true Try.f3.params.toList args.toList ds p := hA0
  rw [Try.params3] at hA hval
  obtain ⟨v0, vs0, d0, ds0, p0, q0, hargs, rfl, rfl, h0, r0⟩ := trodAll_cons hA
  obtain ⟨v1, vs1, d1, ds1, p1, q1, rfl, rfl, rfl, h1, r1⟩ := trodAll_cons r0
  obtain ⟨v2, vs2, d2, ds2, p2, q2, rfl, rfl, rfl, h2, r2⟩ := trodAll_cons r1
  obtain ⟨v3, vs3, d3, ds3, p3, q3, rfl, rfl, rfl, h3, r3⟩ := trodAll_cons r2
  obtain ⟨v4, vs4, d4, ds4, p4, q4, rfl, rfl, rfl, h4, r4⟩ := trodAll_cons r3
  obtain ⟨rfl, rfl, rfl⟩ := trodAll_nil r4
  obtain rfl : args = #[v0, v1, v2, v3, v4] := by cases args; simp_all
  obtain ⟨rfl, rfl⟩ := trodVars_none hV
  obtain ⟨x00, x01, x02, x03, rfl, rfl, rfl, w00, w01, w02, w03⟩ := open23 (hval 0 23 v0 rfl rfl) h0
  obtain ⟨x1, rfl, rfl, rfl, w1⟩ := open_int Try.underlying3 (hval 1 3 v1 rfl rfl) h1
  obtain ⟨x2, rfl, rfl, rfl, w2⟩ := open_int Try.underlying3 (hval 2 3 v2 rfl rfl) h2
  obtain ⟨x3, rfl, rfl, rfl, w3⟩ := open_int Try.underlying3 (hval 3 3 v3 rfl rfl) h3
  obtain ⟨x4, rfl, rfl, rfl, w4⟩ := open_int Try.underlying3 (hval 4 3 v4 rfl rfl) h4
  clear hA0 hval0
  simp only [List.append_nil] at hW'
  refine (walk x00 x01 x02 x03 x1 x2 x3 x4 W (bounds_i64 w00) (bounds_i64 w01) (bounds_i64 w02) (bounds_i64 w03) (bounds_i64 w1) (bounds_i64 w2) (bounds_i64 w3) (bounds_i64 w4)).mono fun e W' ⟨he, hg⟩ => ?_
  subst he
  exact ⟨_, rfl, ⟨_, _, _, [], [], [], hW', (trodAll_cons_mk (shut_bool Try.underlying4 _) trodAll_mk0), (trodAll_cons_mk (shut23 w00 w01 w02 w03) (trodAll_cons_mk (shut_int Try.underlying3 w1) (trodAll_cons_mk (shut_int Try.underlying3 w2) (trodAll_cons_mk (shut_int Try.underlying3 w3) (trodAll_cons_mk (shut_int Try.underlying3 w4) trodAll_mk0))))), rfl, hg.frame _, fun h => by cases h⟩⟩

theorem over : Rows.rectMovesRow.holds Try.pinned (OpenSpec.ofChange Rows.rectMovesSpec) :=
  OpenClaim.holds_of_wide 3 Try.f3 rfl rfl rfl rfl rfl rfl rfl ⟨rfl, rfl, rfl, rfl, rfl⟩ rfl rfl rfl rfl rfl (by kernel_rfl) Try.func3 (by kernel_rfl)
    (of_decide_eq_true (by kernel_rfl)) (by unfold Func.isWrapper; first | (rw [if_pos (by decide +kernel)]; kernel_rfl) | (rw [if_neg (by decide +kernel)]; exact ⟨rfl, rfl⟩))
    (fun os started H enc _ => lifted os started H enc)

theorem proved : Rows.RectMovesSaid := over
#print axioms proved
end Go.Proofs.Ytdceglpkhggkmaa.rectMoves
