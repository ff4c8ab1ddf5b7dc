/- What two rectangles within the plane have in common has no more points than either, and both together, less that, no more than the rectangle that has both; no condition. -/
import Derived.Test.YtdceglpkhggkmaaRows
import Derived.WalkKit
import Derived.ProofKit
import Derived.OpenShut
import Derived.Test.YtdceglpkhggkmaaOpen
import Derived.Test.YtdceglpkhggkmaaLaws
namespace Go.Proofs.Ytdceglpkhggkmaa.rectAreas
open Go.ChangeShapes Go.WideShapes Go.ChangeAt Go.RowKit Num
set_option linter.unusedVariables false
set_option linter.unusedSimpArgs false

set_option maxHeartbeats 2000000 in
theorem walk (a b c d p q r s : Int) (w : World) (b0 : -9223372036854775808 ≤ a ∧ a ≤ 9223372036854775807) (b1 : -9223372036854775808 ≤ b ∧ b ≤ 9223372036854775807) (b2 : -9223372036854775808 ≤ c ∧ c ≤ 9223372036854775807) (b3 : -9223372036854775808 ≤ d ∧ d ≤ 9223372036854775807) (b4 : -9223372036854775808 ≤ p ∧ p ≤ 9223372036854775807) (b5 : -9223372036854775808 ≤ q ∧ q ≤ 9223372036854775807) (b6 : -9223372036854775808 ≤ r ∧ r ≤ 9223372036854775807) (b7 : -9223372036854775808 ≤ s ∧ s ≤ 9223372036854775807) :
    Calls Try.prog 5 #[.agg #[.int .i64 a, .int .i64 b, .int .i64 c, .int .i64 d], .agg #[.int .i64 p, .int .i64 q, .int .i64 r, .int .i64 s]] w fun e w' => e = .returned (.bool true) ∧ Below w.heap.size w w' := by
  clear b0 b1 b2 b3 b4 b5 b6 b7
  have hS : Sz w w.heap.size (w.heap.size + 1) (.int .i64 a) (.int .i64 b) (.int .i64 c) (.int .i64 d) (.int .i64 p) (.int .i64 q) (.int .i64 r) (.int .i64 s) ((w.alloc (.cells #[.int .i64 a, .int .i64 b, .int .i64 c, .int .i64 d] 23)).alloc (.cells #[.int .i64 p, .int .i64 q, .int .i64 r, .int .i64 s] 23)) := by
    have g1 : Has4 ((w.alloc (.cells #[.int .i64 a, .int .i64 b, .int .i64 c, .int .i64 d] 23)).alloc (.cells #[.int .i64 p, .int .i64 q, .int .i64 r, .int .i64 s] 23)) w.heap.size (.int .i64 a) (.int .i64 b) (.int .i64 c) (.int .i64 d) := (Has4.new rfl _ _ _ _ _).alloc _
    have g2 : Has4 ((w.alloc (.cells #[.int .i64 a, .int .i64 b, .int .i64 c, .int .i64 d] 23)).alloc (.cells #[.int .i64 p, .int .i64 q, .int .i64 r, .int .i64 s] 23)) (w.heap.size + 1) (.int .i64 p) (.int .i64 q) (.int .i64 r) (.int .i64 s) := Has4.new (by simp) _ _ _ _ _
    exact ⟨⟨g1.c0, g1.c1, g1.c2, g1.c3⟩, ⟨g2.c0, g2.c1, g2.c2, g2.c3⟩, show Below w.heap.size w _ by go_grown⟩
  rcases hR : rightB ⟨a, b, c, d⟩ with _ | _
  · skip
    go_enter Try.func5, Try.ntmps5
    go_wp2_with (first | (go_at_call 6; refine (right_any _ _ _ _ _).mono ?_; rintro e w' ⟨rfl, hb⟩; replace hS := sz_below hS hb; clear hb; obtain ⟨⟨p0, p1, p2, p3⟩, ⟨q0, q1, q2, q3⟩, hB⟩ := id hS) | (go_at_call 17; refine (meet_any _ _ _ _ _ _ _ _ _).mono ?_; rintro e w' ⟨rfl, hb⟩; replace hS := sz_below hS hb; clear hb; obtain ⟨⟨p0, p1, p2, p3⟩, ⟨q0, q1, q2, q3⟩, hB⟩ := id hS) | (go_at_call 18; refine (join_any _ _ _ _ _ _ _ _ _).mono ?_; rintro e w' ⟨rfl, hb⟩; replace hS := sz_below hS hb; clear hb; obtain ⟨⟨p0, p1, p2, p3⟩, ⟨q0, q1, q2, q3⟩, hB⟩ := id hS) | (go_at_call 13; refine (area_any _ _ _ _ _ (by with_reducible assumption)).mono ?_; rintro e w' ⟨rfl, hb⟩; replace hS := sz_below hS hb; clear hb; obtain ⟨⟨p0, p1, p2, p3⟩, ⟨q0, q1, q2, q3⟩, hB⟩ := id hS) | (go_at_call 8; refine (awake_any _).mono ?_; rintro e w' ⟨rfl, hb⟩; replace hS := sz_below hS hb; clear hb; obtain ⟨⟨p0, p1, p2, p3⟩, ⟨q0, q1, q2, q3⟩, hB⟩ := id hS) | (go_at_call 16; refine (empty_any _ _ _ _ _).mono ?_; rintro e w' ⟨rfl, hb⟩; replace hS := sz_below hS hb; clear hb; obtain ⟨⟨p0, p1, p2, p3⟩, ⟨q0, q1, q2, q3⟩, hB⟩ := id hS))
    go_ret
    exact ⟨rfl, sz_out (p := w.heap.size) (q := w.heap.size + 1) (v0 := .int .i64 a) (v1 := .int .i64 b) (v2 := .int .i64 c) (v3 := .int .i64 d) (u0 := .int .i64 p) (u1 := .int .i64 q) (u2 := .int .i64 r) (u3 := .int .i64 s) (by repeat (first | with_reducible assumption | with_reducible refine sz_drew ?_ | with_reducible refine sz_below ?_ ‹_›))⟩
  rcases hR' : rightB ⟨p, q, r, s⟩ with _ | _
  · skip
    go_enter Try.func5, Try.ntmps5
    go_wp2_with (first | (go_at_call 6; refine (right_any _ _ _ _ _).mono ?_; rintro e w' ⟨rfl, hb⟩; replace hS := sz_below hS hb; clear hb; obtain ⟨⟨p0, p1, p2, p3⟩, ⟨q0, q1, q2, q3⟩, hB⟩ := id hS) | (go_at_call 17; refine (meet_any _ _ _ _ _ _ _ _ _).mono ?_; rintro e w' ⟨rfl, hb⟩; replace hS := sz_below hS hb; clear hb; obtain ⟨⟨p0, p1, p2, p3⟩, ⟨q0, q1, q2, q3⟩, hB⟩ := id hS) | (go_at_call 18; refine (join_any _ _ _ _ _ _ _ _ _).mono ?_; rintro e w' ⟨rfl, hb⟩; replace hS := sz_below hS hb; clear hb; obtain ⟨⟨p0, p1, p2, p3⟩, ⟨q0, q1, q2, q3⟩, hB⟩ := id hS) | (go_at_call 13; refine (area_any _ _ _ _ _ (by with_reducible assumption)).mono ?_; rintro e w' ⟨rfl, hb⟩; replace hS := sz_below hS hb; clear hb; obtain ⟨⟨p0, p1, p2, p3⟩, ⟨q0, q1, q2, q3⟩, hB⟩ := id hS) | (go_at_call 8; refine (awake_any _).mono ?_; rintro e w' ⟨rfl, hb⟩; replace hS := sz_below hS hb; clear hb; obtain ⟨⟨p0, p1, p2, p3⟩, ⟨q0, q1, q2, q3⟩, hB⟩ := id hS) | (go_at_call 16; refine (empty_any _ _ _ _ _).mono ?_; rintro e w' ⟨rfl, hb⟩; replace hS := sz_below hS hb; clear hb; obtain ⟨⟨p0, p1, p2, p3⟩, ⟨q0, q1, q2, q3⟩, hB⟩ := id hS))
    go_ret
    exact ⟨rfl, sz_out (p := w.heap.size) (q := w.heap.size + 1) (v0 := .int .i64 a) (v1 := .int .i64 b) (v2 := .int .i64 c) (v3 := .int .i64 d) (u0 := .int .i64 p) (u1 := .int .i64 q) (u2 := .int .i64 r) (u3 := .int .i64 s) (by repeat (first | with_reducible assumption | with_reducible refine sz_drew ?_ | with_reducible refine sz_below ?_ ‹_›))⟩
  have hoa := ok_of hR
  have hob := ok_of hR'
  have hom : Ok ⟨(meet ⟨a, b, c, d⟩ ⟨p, q, r, s⟩).x0, (meet ⟨a, b, c, d⟩ ⟨p, q, r, s⟩).y0, (meet ⟨a, b, c, d⟩ ⟨p, q, r, s⟩).x1, (meet ⟨a, b, c, d⟩ ⟨p, q, r, s⟩).y1⟩ := ok_meet hoa hob
  have hoj : Ok ⟨(join ⟨a, b, c, d⟩ ⟨p, q, r, s⟩).x0, (join ⟨a, b, c, d⟩ ⟨p, q, r, s⟩).y0, (join ⟨a, b, c, d⟩ ⟨p, q, r, s⟩).x1, (join ⟨a, b, c, d⟩ ⟨p, q, r, s⟩).y1⟩ := ok_join hoa hob
  have f1 : area ⟨(meet ⟨a, b, c, d⟩ ⟨p, q, r, s⟩).x0, (meet ⟨a, b, c, d⟩ ⟨p, q, r, s⟩).y0, (meet ⟨a, b, c, d⟩ ⟨p, q, r, s⟩).x1, (meet ⟨a, b, c, d⟩ ⟨p, q, r, s⟩).y1⟩ ≤ area ⟨a, b, c, d⟩ := meet_l _ _
  have f2 : area ⟨(meet ⟨a, b, c, d⟩ ⟨p, q, r, s⟩).x0, (meet ⟨a, b, c, d⟩ ⟨p, q, r, s⟩).y0, (meet ⟨a, b, c, d⟩ ⟨p, q, r, s⟩).x1, (meet ⟨a, b, c, d⟩ ⟨p, q, r, s⟩).y1⟩ ≤ area ⟨p, q, r, s⟩ := meet_r _ _
  by_cases hj : 2305843009213693952 ≤ area ⟨(join ⟨a, b, c, d⟩ ⟨p, q, r, s⟩).x0, (join ⟨a, b, c, d⟩ ⟨p, q, r, s⟩).y0, (join ⟨a, b, c, d⟩ ⟨p, q, r, s⟩).x1, (join ⟨a, b, c, d⟩ ⟨p, q, r, s⟩).y1⟩
  · skip
    go_enter Try.func5, Try.ntmps5
    go_wp2_with (first | (go_at_call 6; refine (right_any _ _ _ _ _).mono ?_; rintro e w' ⟨rfl, hb⟩; replace hS := sz_below hS hb; clear hb; obtain ⟨⟨p0, p1, p2, p3⟩, ⟨q0, q1, q2, q3⟩, hB⟩ := id hS) | (go_at_call 17; refine (meet_any _ _ _ _ _ _ _ _ _).mono ?_; rintro e w' ⟨rfl, hb⟩; replace hS := sz_below hS hb; clear hb; obtain ⟨⟨p0, p1, p2, p3⟩, ⟨q0, q1, q2, q3⟩, hB⟩ := id hS) | (go_at_call 18; refine (join_any _ _ _ _ _ _ _ _ _).mono ?_; rintro e w' ⟨rfl, hb⟩; replace hS := sz_below hS hb; clear hb; obtain ⟨⟨p0, p1, p2, p3⟩, ⟨q0, q1, q2, q3⟩, hB⟩ := id hS) | (go_at_call 13; refine (area_any _ _ _ _ _ (by with_reducible assumption)).mono ?_; rintro e w' ⟨rfl, hb⟩; replace hS := sz_below hS hb; clear hb; obtain ⟨⟨p0, p1, p2, p3⟩, ⟨q0, q1, q2, q3⟩, hB⟩ := id hS) | (go_at_call 8; refine (awake_any _).mono ?_; rintro e w' ⟨rfl, hb⟩; replace hS := sz_below hS hb; clear hb; obtain ⟨⟨p0, p1, p2, p3⟩, ⟨q0, q1, q2, q3⟩, hB⟩ := id hS) | (go_at_call 16; refine (empty_any _ _ _ _ _).mono ?_; rintro e w' ⟨rfl, hb⟩; replace hS := sz_below hS hb; clear hb; obtain ⟨⟨p0, p1, p2, p3⟩, ⟨q0, q1, q2, q3⟩, hB⟩ := id hS))
    go_ret
    exact ⟨rfl, sz_out (p := w.heap.size) (q := w.heap.size + 1) (v0 := .int .i64 a) (v1 := .int .i64 b) (v2 := .int .i64 c) (v3 := .int .i64 d) (u0 := .int .i64 p) (u1 := .int .i64 q) (u2 := .int .i64 r) (u3 := .int .i64 s) (by repeat (first | with_reducible assumption | with_reducible refine sz_drew ?_ | with_reducible refine sz_below ?_ ‹_›))⟩
  have f3 : area ⟨a, b, c, d⟩ + area ⟨p, q, r, s⟩ - area ⟨(meet ⟨a, b, c, d⟩ ⟨p, q, r, s⟩).x0, (meet ⟨a, b, c, d⟩ ⟨p, q, r, s⟩).y0, (meet ⟨a, b, c, d⟩ ⟨p, q, r, s⟩).x1, (meet ⟨a, b, c, d⟩ ⟨p, q, r, s⟩).y1⟩ ≤ area ⟨(join ⟨a, b, c, d⟩ ⟨p, q, r, s⟩).x0, (join ⟨a, b, c, d⟩ ⟨p, q, r, s⟩).y0, (join ⟨a, b, c, d⟩ ⟨p, q, r, s⟩).x1, (join ⟨a, b, c, d⟩ ⟨p, q, r, s⟩).y1⟩ := areas ⟨a, b, c, d⟩ ⟨p, q, r, s⟩ (Int.not_le.mp hj)
  have a1 := area_bd ⟨a, b, c, d⟩
  have a2 := area_bd ⟨p, q, r, s⟩
  have a3 := area_bd ⟨(meet ⟨a, b, c, d⟩ ⟨p, q, r, s⟩).x0, (meet ⟨a, b, c, d⟩ ⟨p, q, r, s⟩).y0, (meet ⟨a, b, c, d⟩ ⟨p, q, r, s⟩).x1, (meet ⟨a, b, c, d⟩ ⟨p, q, r, s⟩).y1⟩
  have e1 : IntKind.i64.wrap (area ⟨a, b, c, d⟩ + area ⟨p, q, r, s⟩) = area ⟨a, b, c, d⟩ + area ⟨p, q, r, s⟩ := by rw [IntKind.wrap_i64]; omega
  have e2 : IntKind.i64.wrap (area ⟨a, b, c, d⟩ + area ⟨p, q, r, s⟩ - area ⟨(meet ⟨a, b, c, d⟩ ⟨p, q, r, s⟩).x0, (meet ⟨a, b, c, d⟩ ⟨p, q, r, s⟩).y0, (meet ⟨a, b, c, d⟩ ⟨p, q, r, s⟩).x1, (meet ⟨a, b, c, d⟩ ⟨p, q, r, s⟩).y1⟩) = area ⟨a, b, c, d⟩ + area ⟨p, q, r, s⟩ - area ⟨(meet ⟨a, b, c, d⟩ ⟨p, q, r, s⟩).x0, (meet ⟨a, b, c, d⟩ ⟨p, q, r, s⟩).y0, (meet ⟨a, b, c, d⟩ ⟨p, q, r, s⟩).x1, (meet ⟨a, b, c, d⟩ ⟨p, q, r, s⟩).y1⟩ := by rw [IntKind.wrap_i64]; omega
  have z := area_0 ⟨a, b, c, d⟩
  rcases he : empB ⟨a, b, c, d⟩ with _ | _
  all_goals
    rw [he] at z
    have z' : (area ⟨a, b, c, d⟩ == 0) = _ := z
    clear z
    go_enter Try.func5, Try.ntmps5
    go_wp2_with (first | (go_at_call 6; refine (right_any _ _ _ _ _).mono ?_; rintro e w' ⟨rfl, hb⟩; replace hS := sz_below hS hb; clear hb; obtain ⟨⟨p0, p1, p2, p3⟩, ⟨q0, q1, q2, q3⟩, hB⟩ := id hS) | (go_at_call 17; refine (meet_any _ _ _ _ _ _ _ _ _).mono ?_; rintro e w' ⟨rfl, hb⟩; replace hS := sz_below hS hb; clear hb; obtain ⟨⟨p0, p1, p2, p3⟩, ⟨q0, q1, q2, q3⟩, hB⟩ := id hS) | (go_at_call 18; refine (join_any _ _ _ _ _ _ _ _ _).mono ?_; rintro e w' ⟨rfl, hb⟩; replace hS := sz_below hS hb; clear hb; obtain ⟨⟨p0, p1, p2, p3⟩, ⟨q0, q1, q2, q3⟩, hB⟩ := id hS) | (go_at_call 13; refine (area_any _ _ _ _ _ (by with_reducible assumption)).mono ?_; rintro e w' ⟨rfl, hb⟩; replace hS := sz_below hS hb; clear hb; obtain ⟨⟨p0, p1, p2, p3⟩, ⟨q0, q1, q2, q3⟩, hB⟩ := id hS) | (go_at_call 8; refine (awake_any _).mono ?_; rintro e w' ⟨rfl, hb⟩; replace hS := sz_below hS hb; clear hb; obtain ⟨⟨p0, p1, p2, p3⟩, ⟨q0, q1, q2, q3⟩, hB⟩ := id hS) | (go_at_call 16; refine (empty_any _ _ _ _ _).mono ?_; rintro e w' ⟨rfl, hb⟩; replace hS := sz_below hS hb; clear hb; obtain ⟨⟨p0, p1, p2, p3⟩, ⟨q0, q1, q2, q3⟩, hB⟩ := id hS))
    go_region_held3 (fun w' => (w'.cell? ⟨w.heap.size, 0, none⟩ = some (.int .i64 a) ∧ w'.cell? ⟨w.heap.size, 1, none⟩ = some (.int .i64 b) ∧ w'.cell? ⟨w.heap.size, 2, none⟩ = some (.int .i64 c) ∧ w'.cell? ⟨w.heap.size, 3, none⟩ = some (.int .i64 d)) ∧ (w'.cell? ⟨w.heap.size + 1, 0, none⟩ = some (.int .i64 p) ∧ w'.cell? ⟨w.heap.size + 1, 1, none⟩ = some (.int .i64 q) ∧ w'.cell? ⟨w.heap.size + 1, 2, none⟩ = some (.int .i64 r) ∧ w'.cell? ⟨w.heap.size + 1, 3, none⟩ = some (.int .i64 s)) ∧ Kept w w') (repeat (first | with_reducible assumption | with_reducible refine sz_drew ?_ | with_reducible refine sz_below ?_ ‹_›)) ((first | (go_at_call 8; refine (awake_any _).mono ?_; rintro e w1 ⟨rfl, hb⟩) | (go_at_call 13; refine (area_any _ _ _ _ _ (by with_reducible assumption)).mono ?_; rintro e w1 ⟨rfl, hb⟩) | (go_at_call 18; refine (join_any _ _ _ _ _ _ _ _ _).mono ?_; rintro e w1 ⟨rfl, hb⟩) | (go_at_call 16; refine (empty_any _ _ _ _ _).mono ?_; rintro e w1 ⟨rfl, hb⟩)))
    go_wp2
    go_ret
    exact ⟨rfl, sz_out (p := w.heap.size) (q := w.heap.size + 1) (v0 := .int .i64 a) (v1 := .int .i64 b) (v2 := .int .i64 c) (v3 := .int .i64 d) (u0 := .int .i64 p) (u1 := .int .i64 q) (u2 := .int .i64 r) (u3 := .int .i64 s) (by repeat (first | with_reducible assumption | with_reducible refine sz_drew ?_ | with_reducible refine sz_below ?_ ‹_›))⟩

theorem own : ownKnob Try.prog.godebug = none := by kernel_rfl

set_option maxRecDepth 100000 in
theorem lifted (os : Os) (started : os.Started) (H : Type) (enc : TypeId × Value → H) :
    ReturnsInHanded {} Try.checked os 5 .any (Rows.rectAreasSpec.pre6 enc Try.prog Try.f5 Rows.rectAreasRow.domain false) (Rows.rectAreasSpec.post enc Try.prog Try.f5 false true false false) := by
  refine returnsInHanded_of_change (C := Try.checked) own started (by kernel_rfl) Try.func5
    (ChangeSpec.witness6 (enc := enc) (C := Try.checked) false ⟨#[], #[.agg #[.int .i64 0, .int .i64 0, .int .i64 0, .int .i64 0], .agg #[.int .i64 0, .int .i64 0, .int .i64 0, .int .i64 0]], []⟩ 8 (by kernel_rfl) (by kernel_rfl) (by kernel_rfl) (by kernel_rfl)) ?_
  intro W base args ds gs before hval0 hW hcnd _
  have hval : ∀ (j : Nat) t v, Try.f5.params[j]? = some t → args[j]? = some v → Value.okWide Try.prog W .any base t v := hval0
  have hW' := hW
  obtain ⟨p, q, hA0, hV, rfl, hfz, hnd⟩ := hW
  have hA : DataW.TrodAll enc Try.prog W 0 (fun _ => true) true Try.f5.params.toList args.toList ds p := hA0
  rw [Try.params5] at hA hval
  obtain ⟨v0, vs0, d0, ds0, p0, q0, hargs, rfl, rfl, h0, r0⟩ := trodAll_cons hA
  obtain ⟨v1, vs1, d1, ds1, p1, q1, rfl, rfl, rfl, h1, r1⟩ := trodAll_cons r0
  obtain ⟨rfl, rfl, rfl⟩ := trodAll_nil r1
  obtain rfl : args = #[v0, v1] := by cases args; simp_all
  obtain ⟨rfl, rfl⟩ := trodVars_none hV
  obtain ⟨x00, x01, x02, x03, rfl, rfl, rfl, w00, w01, w02, w03⟩ := open23 (hval 0 23 v0 rfl rfl) h0
  obtain ⟨x10, x11, x12, x13, rfl, rfl, rfl, w10, w11, w12, w13⟩ := open23 (hval 1 23 v1 rfl rfl) h1
  clear hA0 hval0
  simp only [List.append_nil] at hW'
  refine (walk x00 x01 x02 x03 x10 x11 x12 x13 W (bounds_i64 w00) (bounds_i64 w01) (bounds_i64 w02) (bounds_i64 w03) (bounds_i64 w10) (bounds_i64 w11) (bounds_i64 w12) (bounds_i64 w13)).mono fun e W' ⟨he, hg⟩ => ?_
  subst he
  exact ⟨_, rfl, ⟨_, _, _, [], [], [], hW', (trodAll_cons_mk (shut_bool Try.underlying4 _) trodAll_mk0), (trodAll_cons_mk (shut23 w00 w01 w02 w03) (trodAll_cons_mk (shut23 w10 w11 w12 w13) trodAll_mk0)), rfl, hg.frame _, fun h => by cases h⟩⟩

theorem over : Rows.rectAreasRow.holds Try.pinned (OpenSpec.ofChange Rows.rectAreasSpec) :=
  OpenClaim.holds_of_wide 5 Try.f5 rfl rfl rfl rfl rfl rfl rfl ⟨rfl, rfl, rfl, rfl, rfl⟩ rfl rfl rfl rfl rfl (by kernel_rfl) Try.func5 (by kernel_rfl)
    (of_decide_eq_true (by kernel_rfl)) (by unfold Func.isWrapper; first | (rw [if_pos (by decide +kernel)]; kernel_rfl) | (rw [if_neg (by decide +kernel)]; exact ⟨rfl, rfl⟩))
    (fun os started H enc _ => lifted os started H enc)

theorem proved : Rows.RectAreasSaid := over
#print axioms proved
end Go.Proofs.Ytdceglpkhggkmaa.rectAreas
