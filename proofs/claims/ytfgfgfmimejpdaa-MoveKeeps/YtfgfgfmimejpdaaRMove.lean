/- Moving a rectangle: the contract. -/
import Derived.Test.YtfgfgfmimejpdaaRGrow
namespace Go.Proofs.Ytfgfgfmimejpdaa.Rc
open Num Go.RowKit
set_option linter.unusedVariables false
set_option linter.unusedSimpArgs false
attribute [local go_sem ↓] run_min_i64 run_max_i64

theorem moved_any (n d : Int) (w : World) (hn : -4398046511104 ≤ n ∧ n ≤ 4398046511104) (hd : -4398046511104 ≤ d ∧ d ≤ 4398046511104) :
    Calls Try.prog 70 #[.int .i64 n, .int .i64 d] w fun e w' => e = .returned (.int .i64 (mvd n d)) ∧ w' = w := by
  obtain ⟨n0, n1⟩ := hn
  obtain ⟨d0, d1⟩ := hd
  go_enter Try.func70, Try.ntmps70
  go_wp2
  all_goals
    go_ret
    refine ⟨ret_int ?_, rfl⟩
    unfold mvd
    first | rw [if_pos (by omega)] | rw [if_neg (by omega)]
set_option maxHeartbeats 1000000 in
theorem move_any (a b c d k l : Int) (w : World) (ho : Ok ⟨a, b, c, d⟩) (hk : -4398046511104 ≤ k ∧ k ≤ 4398046511104) (hl : -4398046511104 ≤ l ∧ l ≤ 4398046511104) :
    Calls Try.prog 43 #[.agg #[.int .i64 a, .int .i64 b, .int .i64 c, .int .i64 d], .int .i64 k, .int .i64 l] w fun e w' => e = .returned (.agg #[.int .i64 (moveR ⟨a, b, c, d⟩ k l).x0, .int .i64 (moveR ⟨a, b, c, d⟩ k l).y0, .int .i64 (moveR ⟨a, b, c, d⟩ k l).x1, .int .i64 (moveR ⟨a, b, c, d⟩ k l).y1]) ∧ Below w.heap.size w w' := by
  obtain ⟨⟨a0, a1⟩, ⟨b0, b1⟩, ⟨c0, c1⟩, d0, d1⟩ := ho
  dsimp only at a0 a1 b0 b1 c0 c1 d0 d1
  obtain ⟨k0, k1⟩ := hk
  obtain ⟨l0, l1⟩ := hl
  rcases h : empB ⟨a, b, c, d⟩ with _ | _
  · have E : moveR ⟨a, b, c, d⟩ k l = cutR (mvd a k) (mvd b l) (mvd c k) (mvd d l) := by unfold moveR; rw [if_neg (by simp [h])]
    rw [E]
    clear E
    go_enter Try.func43, Try.ntmps43
    go_wp2_with (first | (go_at_call 37; refine (empty_any _ _ _ _ _).mono ?_; rintro e w' ⟨rfl, hb⟩; have hB := via (w := w) (by go_grown) hb; have hz := hB.size; have hP : Has4 w' w.heap.size (.int .i64 a) (.int .i64 b) (.int .i64 c) (.int .i64 d) := ((Has4.new rfl _ _ _ _ _).alloc _).below hb; have hR : Has4 w' (w.heap.size + 1) (.int .i64 0) (.int .i64 0) (.int .i64 0) (.int .i64 0) := (Has4.new (by simp) _ _ _ _ _).below hb; clear hb; obtain ⟨p0, p1, p2, p3, pf⟩ := id hP; obtain ⟨r0, r1, r2, r3, rf⟩ := id hR))
    have hS : Sx w w.heap.size (w.heap.size + 1) (.int .i64 a) (.int .i64 b) (.int .i64 c) (.int .i64 d) w' := ⟨⟨p0, p1, p2, p3⟩, hB, by omega, _, _, _, _, hR⟩
    go_region_held3 (fun w' => (w'.cell? ⟨w.heap.size, 0, none⟩ = some (.int .i64 a) ∧ w'.cell? ⟨w.heap.size, 1, none⟩ = some (.int .i64 b) ∧ w'.cell? ⟨w.heap.size, 2, none⟩ = some (.int .i64 c) ∧ w'.cell? ⟨w.heap.size, 3, none⟩ = some (.int .i64 d)) ∧ Rest w (w.heap.size + 1) w') (repeat (first | with_reducible assumption | with_reducible refine sx_drew ?_ | with_reducible refine sx_alloc ?_ | with_reducible refine sx_set (by omega) ?_ | with_reducible refine sx_below ?_ ‹_›)) ((first | (go_at_call 70; refine (moved_any _ _ _ (by omega) (by omega)).mono ?_; rintro e w1 ⟨rfl, rfl⟩) | (go_at_call 69; refine (cut_any _ (mvd a k) (mvd b l) (mvd c k) (mvd d l) _ (by simp) (by simp) (by simp) (by simp)).mono ?_; rintro e w'2 ⟨rfl, hb2⟩; have hq : Sx w w.heap.size (w.heap.size + 1) (.int .i64 a) (.int .i64 b) (.int .i64 c) (.int .i64 d) w'2 := sx_below (by repeat (first | with_reducible assumption | with_reducible refine sx_drew ?_ | with_reducible refine sx_alloc ?_)) hb2; obtain ⟨hq1, hB2, hRle, u0, u1, u2, u3, t0, t1, t2, t3, tf⟩ := id hq)))
    go_wp2
    obtain ⟨s0, s1, s2, s3⟩ := set4 t0 t1 t2 t3 (.int .i64 (cutR (mvd a k) (mvd b l) (mvd c k) (mvd d l)).x0) (.int .i64 (cutR (mvd a k) (mvd b l) (mvd c k) (mvd d l)).y0) (.int .i64 (cutR (mvd a k) (mvd b l) (mvd c k) (mvd d l)).x1) (.int .i64 (cutR (mvd a k) (mvd b l) (mvd c k) (mvd d l)).y1)
    refine bodyPost_ret (v := .agg #[.int .i64 (cutR (mvd a k) (mvd b l) (mvd c k) (mvd d l)).x0, .int .i64 (cutR (mvd a k) (mvd b l) (mvd c k) (mvd d l)).y0, .int .i64 (cutR (mvd a k) (mvd b l) (mvd c k) (mvd d l)).x1, .int .i64 (cutR (mvd a k) (mvd b l) (mvd c k) (mvd d l)).y1]) (by simp [results, Try.results43, go_sem, s0, s1, s2, s3]) rfl ⟨rfl, ?_⟩
    go_grown
  · have E : moveR ⟨a, b, c, d⟩ k l = nil := by unfold moveR; rw [if_pos h]
    rw [E]
    clear E
    go_enter Try.func43, Try.ntmps43
    go_wp2_with (first | (go_at_call 37; refine (empty_any _ _ _ _ _).mono ?_; rintro e w' ⟨rfl, hb⟩; have hB := via (w := w) (by go_grown) hb; have hz := hB.size; have hP : Has4 w' w.heap.size (.int .i64 a) (.int .i64 b) (.int .i64 c) (.int .i64 d) := ((Has4.new rfl _ _ _ _ _).alloc _).below hb; have hR : Has4 w' (w.heap.size + 1) (.int .i64 0) (.int .i64 0) (.int .i64 0) (.int .i64 0) := (Has4.new (by simp) _ _ _ _ _).below hb; clear hb; obtain ⟨p0, p1, p2, p3, pf⟩ := id hP; obtain ⟨r0, r1, r2, r3, rf⟩ := id hR))
    obtain ⟨s0, s1, s2, s3⟩ := set4 r0 r1 r2 r3 (.int .i64 0) (.int .i64 0) (.int .i64 0) (.int .i64 0)
    refine bodyPost_ret (v := .agg #[.int .i64 0, .int .i64 0, .int .i64 0, .int .i64 0]) (by simp [results, Try.results43, go_sem, s0, s1, s2, s3]) rfl ⟨rfl, ?_⟩
    go_grown

end Go.Proofs.Ytfgfgfmimejpdaa.Rc
