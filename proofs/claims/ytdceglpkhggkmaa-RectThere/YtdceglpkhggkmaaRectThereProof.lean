/- A point is in a rectangle that is moved just if the point that is moved back was in it, where nothing comes to the ends of the plane; grown, a rectangle has what is so near to it; no condition. -/
import Derived.Test.YtdceglpkhggkmaaRows
import Derived.WalkKit
import Derived.ProofKit
import Derived.OpenShut
import Derived.Test.YtdceglpkhggkmaaOpen
import Derived.Test.YtdceglpkhggkmaaLaws
namespace Go.Proofs.Ytdceglpkhggkmaa.rectThere
open Go.ChangeShapes Go.WideShapes Go.ChangeAt Go.RowKit Num
set_option linter.unusedVariables false
set_option linter.unusedSimpArgs false

set_option maxRecDepth 100000 in
set_option maxHeartbeats 2000000 in
theorem out (a b c d k l m n g : Int) (w : World) (h : ¬ (-1048576 < a ∧ -1048576 < b ∧ c < 1048576 ∧ d < 1048576 ∧ -1048576 < m ∧ m < 1048576 ∧ -1048576 < n ∧ n < 1048576 ∧ -1048576 < k ∧ k < 1048576 ∧ -1048576 < l ∧ l < 1048576 ∧ a ≤ 1048576 ∧ b ≤ 1048576 ∧ -1048576 ≤ c ∧ -1048576 ≤ d ∧ 0 ≤ g ∧ g ≤ 1000)) :
    Calls Try.prog 4 #[.agg #[.int .i64 a, .int .i64 b, .int .i64 c, .int .i64 d], .int .i64 k, .int .i64 l, .int .i64 m, .int .i64 n, .int .i64 g] w fun e w' => e = .returned (.bool true) ∧ Below w.heap.size w w' := by
  have hS : Sy w w.heap.size (.int .i64 a) (.int .i64 b) (.int .i64 c) (.int .i64 d) (w.alloc (.cells #[.int .i64 a, .int .i64 b, .int .i64 c, .int .i64 d] 23)) := by
    have g1 : Has4 (w.alloc (.cells #[.int .i64 a, .int .i64 b, .int .i64 c, .int .i64 d] 23)) w.heap.size (.int .i64 a) (.int .i64 b) (.int .i64 c) (.int .i64 d) := Has4.new rfl _ _ _ _ _
    exact ⟨⟨g1.c0, g1.c1, g1.c2, g1.c3⟩, show Below w.heap.size w _ by go_grown⟩
  have H : Hid (¬ (-1048576 < a ∧ -1048576 < b ∧ c < 1048576 ∧ d < 1048576 ∧ -1048576 < m ∧ m < 1048576 ∧ -1048576 < n ∧ n < 1048576 ∧ -1048576 < k ∧ k < 1048576 ∧ -1048576 < l ∧ l < 1048576 ∧ a ≤ 1048576 ∧ b ≤ 1048576 ∧ -1048576 ≤ c ∧ -1048576 ≤ d ∧ 0 ≤ g ∧ g ≤ 1000)) := h
  clear h
  go_enter Try.func4, Try.ntmps4
  go_wp2_with (first | (go_at_call 8; refine (awake_any _).mono ?_; rintro e w' ⟨rfl, hb⟩; replace hS : Sy w w.heap.size (.int .i64 a) (.int .i64 b) (.int .i64 c) (.int .i64 d) w' := sy_below (by repeat (first | with_reducible assumption | with_reducible refine sy_drew ?_ | with_reducible refine sy_below ?_ ‹_›)) hb; clear hb; obtain ⟨⟨p0, p1, p2, p3⟩, hB⟩ := id hS))
  all_goals
    first
    | (go_ret; exact ⟨rfl, sy_out (p := w.heap.size) (v0 := .int .i64 a) (v1 := .int .i64 b) (v2 := .int .i64 c) (v3 := .int .i64 d) (by repeat (first | with_reducible assumption | with_reducible refine sy_drew ?_ | with_reducible refine sy_below ?_ ‹_›))⟩)
    | exact absurd (by omega) H.out

set_option maxRecDepth 100000 in
set_option maxHeartbeats 4000000 in
theorem inn (a b c d k l m n g : Int) (w : World) (c0 : -1048576 < a) (c1 : -1048576 < b) (c2 : c < 1048576) (c3 : d < 1048576) (c4 : -1048576 < m) (c5 : m < 1048576) (c6 : -1048576 < n) (c7 : n < 1048576) (c8 : -1048576 < k) (c9 : k < 1048576) (c10 : -1048576 < l) (c11 : l < 1048576) (c12 : a ≤ 1048576) (c13 : b ≤ 1048576) (c14 : -1048576 ≤ c) (c15 : -1048576 ≤ d) (c16 : 0 ≤ g) (c17 : g ≤ 1000) :
    Calls Try.prog 4 #[.agg #[.int .i64 a, .int .i64 b, .int .i64 c, .int .i64 d], .int .i64 k, .int .i64 l, .int .i64 m, .int .i64 n, .int .i64 g] w fun e w' => e = .returned (.bool true) ∧ Below w.heap.size w w' := by
  have hS : Sy w w.heap.size (.int .i64 a) (.int .i64 b) (.int .i64 c) (.int .i64 d) (w.alloc (.cells #[.int .i64 a, .int .i64 b, .int .i64 c, .int .i64 d] 23)) := by
    have g1 : Has4 (w.alloc (.cells #[.int .i64 a, .int .i64 b, .int .i64 c, .int .i64 d] 23)) w.heap.size (.int .i64 a) (.int .i64 b) (.int .i64 c) (.int .i64 d) := Has4.new rfl _ _ _ _ _
    exact ⟨⟨g1.c0, g1.c1, g1.c2, g1.c3⟩, show Below w.heap.size w _ by go_grown⟩
  have ho : Ok ⟨a, b, c, d⟩ := by unfold Ok; dsimp only; omega
  have MV : hasB ⟨(moveR ⟨a, b, c, d⟩ m n).x0, (moveR ⟨a, b, c, d⟩ m n).y0, (moveR ⟨a, b, c, d⟩ m n).x1, (moveR ⟨a, b, c, d⟩ m n).y1⟩ k l = hasB ⟨a, b, c, d⟩ (k - m) (l - n) := has_move (r := ⟨a, b, c, d⟩) ⟨c0, by dsimp only; omega⟩ ⟨c1, by dsimp only; omega⟩ ⟨by dsimp only; omega, c2⟩ ⟨by dsimp only; omega, c3⟩ ⟨c4, c5⟩ ⟨c6, c7⟩
  have G0 : hasB ⟨(grow ⟨a, b, c, d⟩ g g g g).x0, (grow ⟨a, b, c, d⟩ g g g g).y0, (grow ⟨a, b, c, d⟩ g g g g).x1, (grow ⟨a, b, c, d⟩ g g g g).y1⟩ k l = growB ⟨a, b, c, d⟩ g k l := has_grow (r := ⟨a, b, c, d⟩) ⟨c0, by dsimp only; omega⟩ ⟨c1, by dsimp only; omega⟩ ⟨by dsimp only; omega, c2⟩ ⟨by dsimp only; omega, c3⟩ ⟨c16, c17⟩
  have e1 : IntKind.i64.wrap (k - m) = k - m := by rw [IntKind.wrap_i64]; omega
  have e2 : IntKind.i64.wrap (l - n) = l - n := by rw [IntKind.wrap_i64]; omega
  have split : (empB ⟨a, b, c, d⟩ = true ∧ growB ⟨a, b, c, d⟩ g k l = false) ∨ (empB ⟨a, b, c, d⟩ = false ∧ growB ⟨a, b, c, d⟩ g k l = false ∧ k < a - g) ∨ (empB ⟨a, b, c, d⟩ = false ∧ growB ⟨a, b, c, d⟩ g k l = false ∧ a - g ≤ k ∧ c + g ≤ k) ∨ (empB ⟨a, b, c, d⟩ = false ∧ growB ⟨a, b, c, d⟩ g k l = false ∧ a - g ≤ k ∧ k < c + g ∧ l < b - g) ∨ (empB ⟨a, b, c, d⟩ = false ∧ growB ⟨a, b, c, d⟩ g k l = false ∧ a - g ≤ k ∧ k < c + g ∧ b - g ≤ l ∧ d + g ≤ l) ∨ (empB ⟨a, b, c, d⟩ = false ∧ growB ⟨a, b, c, d⟩ g k l = true ∧ a - g ≤ k ∧ k < c + g ∧ b - g ≤ l ∧ l < d + g) := by
    unfold growB
    rcases he : empB ⟨a, b, c, d⟩ with _ | _ <;> simp <;> omega
  rcases split with ⟨he, G⟩ | ⟨he, G, i1⟩ | ⟨he, G, i1, i2⟩ | ⟨he, G, i1, i2, i3⟩ | ⟨he, G, i1, i2, i3, i4⟩ | ⟨he, G, i1, i2, i3, i4⟩
  all_goals
    rw [G] at G0
    clear G
    go_enter Try.func4, Try.ntmps4
    go_wp2_with (first | (go_at_call 8; refine (awake_any _).mono ?_; rintro e w' ⟨rfl, hb⟩; replace hS : Sy w w.heap.size (.int .i64 a) (.int .i64 b) (.int .i64 c) (.int .i64 d) w' := sy_below (by repeat (first | with_reducible assumption | with_reducible refine sy_drew ?_ | with_reducible refine sy_below ?_ ‹_›)) hb; clear hb; obtain ⟨⟨p0, p1, p2, p3⟩, hB⟩ := id hS) | (go_at_call 16; refine (empty_any _ _ _ _ _).mono ?_; rintro e w' ⟨rfl, hb⟩; replace hS : Sy w w.heap.size (.int .i64 a) (.int .i64 b) (.int .i64 c) (.int .i64 d) w' := sy_below (by repeat (first | with_reducible assumption | with_reducible refine sy_drew ?_ | with_reducible refine sy_below ?_ ‹_›)) hb; clear hb; obtain ⟨⟨p0, p1, p2, p3⟩, hB⟩ := id hS) | (go_at_call 11; refine (grow_any _ _ _ _ _ _ _ _ _ ho (by omega) (by omega) (by omega) (by omega)).mono ?_; rintro e w' ⟨rfl, hb⟩; replace hS : Sy w w.heap.size (.int .i64 a) (.int .i64 b) (.int .i64 c) (.int .i64 d) w' := sy_below (by repeat (first | with_reducible assumption | with_reducible refine sy_drew ?_ | with_reducible refine sy_below ?_ ‹_›)) hb; clear hb; obtain ⟨⟨p0, p1, p2, p3⟩, hB⟩ := id hS) | (go_at_call 15; refine (has_any _ _ _ _ _ _ _).mono ?_; rintro e w' ⟨rfl, hb⟩; replace hS : Sy w w.heap.size (.int .i64 a) (.int .i64 b) (.int .i64 c) (.int .i64 d) w' := sy_below (by repeat (first | with_reducible assumption | with_reducible refine sy_drew ?_ | with_reducible refine sy_below ?_ ‹_›)) hb; clear hb; obtain ⟨⟨p0, p1, p2, p3⟩, hB⟩ := id hS))
    go_region_held3 (fun w' => (w'.cell? ⟨w.heap.size, 0, none⟩ = some (.int .i64 a) ∧ w'.cell? ⟨w.heap.size, 1, none⟩ = some (.int .i64 b) ∧ w'.cell? ⟨w.heap.size, 2, none⟩ = some (.int .i64 c) ∧ w'.cell? ⟨w.heap.size, 3, none⟩ = some (.int .i64 d)) ∧ Kept w w') (repeat (first | with_reducible assumption | with_reducible refine sy_drew ?_ | with_reducible refine sy_below ?_ ‹_›)) ((first | (go_at_call 9; refine (move_any _ _ _ _ _ _ _ ho (by omega) (by omega)).mono ?_; rintro e w1 ⟨rfl, hb⟩; have hT : Sy w w.heap.size (.int .i64 a) (.int .i64 b) (.int .i64 c) (.int .i64 d) w1 := sy_below (by repeat (first | with_reducible assumption | with_reducible refine sy_drew ?_ | with_reducible refine sy_below ?_ ‹_›)) hb) | (go_at_call 15; refine (has_any _ _ _ _ _ _ _).mono ?_; rintro e w1 ⟨rfl, hb⟩; have hT : Sy w w.heap.size (.int .i64 a) (.int .i64 b) (.int .i64 c) (.int .i64 d) w1 := sy_below (by repeat (first | with_reducible assumption | with_reducible refine sy_drew ?_ | with_reducible refine sy_below ?_ ‹_›)) hb)))
    obtain ⟨⟨p0, p1, p2, p3⟩, hB⟩ := id hT
    go_wp2_with (first | (go_at_call 8; refine (awake_any _).mono ?_; rintro e w' ⟨rfl, hb⟩; replace hS : Sy w w.heap.size (.int .i64 a) (.int .i64 b) (.int .i64 c) (.int .i64 d) w' := sy_below (by repeat (first | with_reducible assumption | with_reducible refine sy_drew ?_ | with_reducible refine sy_below ?_ ‹_›)) hb; clear hb; obtain ⟨⟨p0, p1, p2, p3⟩, hB⟩ := id hS) | (go_at_call 16; refine (empty_any _ _ _ _ _).mono ?_; rintro e w' ⟨rfl, hb⟩; replace hS : Sy w w.heap.size (.int .i64 a) (.int .i64 b) (.int .i64 c) (.int .i64 d) w' := sy_below (by repeat (first | with_reducible assumption | with_reducible refine sy_drew ?_ | with_reducible refine sy_below ?_ ‹_›)) hb; clear hb; obtain ⟨⟨p0, p1, p2, p3⟩, hB⟩ := id hS) | (go_at_call 11; refine (grow_any _ _ _ _ _ _ _ _ _ ho (by omega) (by omega) (by omega) (by omega)).mono ?_; rintro e w' ⟨rfl, hb⟩; replace hS : Sy w w.heap.size (.int .i64 a) (.int .i64 b) (.int .i64 c) (.int .i64 d) w' := sy_below (by repeat (first | with_reducible assumption | with_reducible refine sy_drew ?_ | with_reducible refine sy_below ?_ ‹_›)) hb; clear hb; obtain ⟨⟨p0, p1, p2, p3⟩, hB⟩ := id hS) | (go_at_call 15; refine (has_any _ _ _ _ _ _ _).mono ?_; rintro e w' ⟨rfl, hb⟩; replace hS : Sy w w.heap.size (.int .i64 a) (.int .i64 b) (.int .i64 c) (.int .i64 d) w' := sy_below (by repeat (first | with_reducible assumption | with_reducible refine sy_drew ?_ | with_reducible refine sy_below ?_ ‹_›)) hb; clear hb; obtain ⟨⟨p0, p1, p2, p3⟩, hB⟩ := id hS))

    go_ret
    refine ⟨?_, sy_out (p := w.heap.size) (v0 := .int .i64 a) (v1 := .int .i64 b) (v2 := .int .i64 c) (v3 := .int .i64 d) (by repeat (first | with_reducible assumption | with_reducible refine sy_drew ?_ | with_reducible refine sy_below ?_ ‹_›))⟩
    first | rfl | exact ret_bool (by simp; omega)


theorem walk (a b c d k l m n g : Int) (w : World) (b0 : -9223372036854775808 ≤ a ∧ a ≤ 9223372036854775807) (b1 : -9223372036854775808 ≤ b ∧ b ≤ 9223372036854775807) (b2 : -9223372036854775808 ≤ c ∧ c ≤ 9223372036854775807) (b3 : -9223372036854775808 ≤ d ∧ d ≤ 9223372036854775807) (b4 : -9223372036854775808 ≤ k ∧ k ≤ 9223372036854775807) (b5 : -9223372036854775808 ≤ l ∧ l ≤ 9223372036854775807) (b6 : -9223372036854775808 ≤ m ∧ m ≤ 9223372036854775807) (b7 : -9223372036854775808 ≤ n ∧ n ≤ 9223372036854775807) (b8 : -9223372036854775808 ≤ g ∧ g ≤ 9223372036854775807) :
    Calls Try.prog 4 #[.agg #[.int .i64 a, .int .i64 b, .int .i64 c, .int .i64 d], .int .i64 k, .int .i64 l, .int .i64 m, .int .i64 n, .int .i64 g] w fun e w' => e = .returned (.bool true) ∧ Below w.heap.size w w' := by
  by_cases h : -1048576 < a ∧ -1048576 < b ∧ c < 1048576 ∧ d < 1048576 ∧ -1048576 < m ∧ m < 1048576 ∧ -1048576 < n ∧ n < 1048576 ∧ -1048576 < k ∧ k < 1048576 ∧ -1048576 < l ∧ l < 1048576 ∧ a ≤ 1048576 ∧ b ≤ 1048576 ∧ -1048576 ≤ c ∧ -1048576 ≤ d ∧ 0 ≤ g ∧ g ≤ 1000
  · obtain ⟨c0, c1, c2, c3, c4, c5, c6, c7, c8, c9, c10, c11, c12, c13, c14, c15, c16, c17⟩ := h
    exact inn a b c d k l m n g w c0 c1 c2 c3 c4 c5 c6 c7 c8 c9 c10 c11 c12 c13 c14 c15 c16 c17
  · exact out a b c d k l m n g w h

theorem own : ownKnob Try.prog.godebug = none := by kernel_rfl

set_option maxRecDepth 100000 in
theorem lifted (os : Os) (started : os.Started) (H : Type) (enc : TypeId × Value → H) :
    ReturnsInHanded {} Try.checked os 4 .any (Rows.rectThereSpec.pre6 enc Try.prog Try.f4 Rows.rectThereRow.domain false) (Rows.rectThereSpec.post enc Try.prog Try.f4 false true false false) := by
  refine returnsInHanded_of_change (C := Try.checked) own started (by kernel_rfl) Try.func4
    (ChangeSpec.witness6 (enc := enc) (C := Try.checked) false ⟨#[], #[.agg #[.int .i64 0, .int .i64 0, .int .i64 0, .int .i64 0], .int .i64 0, .int .i64 0, .int .i64 0, .int .i64 0, .int .i64 0], []⟩ 8 (by kernel_rfl) (by kernel_rfl) (by kernel_rfl) (by kernel_rfl)) ?_
  intro W base args ds gs before hval0 hW hcnd _
  have hval : ∀ (j : Nat) t v, Try.f4.params[j]? = some t → args[j]? = some v → Value.okWide Try.prog W .any base t v := hval0
  have hW' := hW
  obtain ⟨p, q, hA0, hV, rfl, hfz, hnd⟩ := hW
  have hA : DataW.TrodAll enc Try.prog W 0 (fun _ => true) true Try.f4.params.toList args.toList ds p := hA0
  rw [Try.params4] at hA hval
  obtain ⟨v0, vs0, d0, ds0, p0, q0, hargs, rfl, rfl, h0, r0⟩ := trodAll_cons hA
  obtain ⟨v1, vs1, d1, ds1, p1, q1, rfl, rfl, rfl, h1, r1⟩ := trodAll_cons r0
  obtain ⟨v2, vs2, d2, ds2, p2, q2, rfl, rfl, rfl, h2, r2⟩ := trodAll_cons r1
  obtain ⟨v3, vs3, d3, ds3, p3, q3, rfl, rfl, rfl, h3, r3⟩ := trodAll_cons r2
  obtain ⟨v4, vs4, d4, ds4, p4, q4, rfl, rfl, rfl, h4, r4⟩ := trodAll_cons r3
  obtain ⟨v5, vs5, d5, ds5, p5, q5, rfl, rfl, rfl, h5, r5⟩ := trodAll_cons r4
  obtain ⟨rfl, rfl, rfl⟩ := trodAll_nil r5
  obtain rfl : args = #[v0, v1, v2, v3, v4, v5] := by cases args; simp_all
  obtain ⟨rfl, rfl⟩ := trodVars_none hV
  obtain ⟨x00, x01, x02, x03, rfl, rfl, rfl, w00, w01, w02, w03⟩ := open23 (hval 0 23 v0 rfl rfl) h0
  obtain ⟨x1, rfl, rfl, rfl, w1⟩ := open_int Try.underlying3 (hval 1 3 v1 rfl rfl) h1
  obtain ⟨x2, rfl, rfl, rfl, w2⟩ := open_int Try.underlying3 (hval 2 3 v2 rfl rfl) h2
  obtain ⟨x3, rfl, rfl, rfl, w3⟩ := open_int Try.underlying3 (hval 3 3 v3 rfl rfl) h3
  obtain ⟨x4, rfl, rfl, rfl, w4⟩ := open_int Try.underlying3 (hval 4 3 v4 rfl rfl) h4
  obtain ⟨x5, rfl, rfl, rfl, w5⟩ := open_int Try.underlying3 (hval 5 3 v5 rfl rfl) h5
  clear hA0 hval0
  simp only [List.append_nil] at hW'
  refine (walk x00 x01 x02 x03 x1 x2 x3 x4 x5 W (bounds_i64 w00) (bounds_i64 w01) (bounds_i64 w02) (bounds_i64 w03) (bounds_i64 w1) (bounds_i64 w2) (bounds_i64 w3) (bounds_i64 w4) (bounds_i64 w5)).mono fun e W' ⟨he, hg⟩ => ?_
  subst he
  exact ⟨_, rfl, ⟨_, _, _, [], [], [], hW', (trodAll_cons_mk (shut_bool Try.underlying4 _) trodAll_mk0), (trodAll_cons_mk (shut23 w00 w01 w02 w03) (trodAll_cons_mk (shut_int Try.underlying3 w1) (trodAll_cons_mk (shut_int Try.underlying3 w2) (trodAll_cons_mk (shut_int Try.underlying3 w3) (trodAll_cons_mk (shut_int Try.underlying3 w4) (trodAll_cons_mk (shut_int Try.underlying3 w5) trodAll_mk0)))))), rfl, hg.frame _, fun h => by cases h⟩⟩

theorem over : Rows.rectThereRow.holds Try.pinned (OpenSpec.ofChange Rows.rectThereSpec) :=
  OpenClaim.holds_of_wide 4 Try.f4 rfl rfl rfl rfl rfl rfl rfl ⟨rfl, rfl, rfl, rfl, rfl⟩ rfl rfl rfl rfl rfl (by kernel_rfl) Try.func4 (by kernel_rfl)
    (of_decide_eq_true (by kernel_rfl)) (by unfold Func.isWrapper; first | (rw [if_pos (by decide +kernel)]; kernel_rfl) | (rw [if_neg (by decide +kernel)]; exact ⟨rfl, rfl⟩))
    (fun os started H enc _ => lifted os started H enc)

theorem proved : Rows.RectThereSaid := over
#print axioms proved
end Go.Proofs.Ytdceglpkhggkmaa.rectThere
