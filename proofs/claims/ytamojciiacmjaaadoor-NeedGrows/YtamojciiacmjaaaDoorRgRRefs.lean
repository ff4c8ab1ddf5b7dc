/- What the document's functions that move and grow rectangles do, as contracts: the same. -/
import Derived.Test.YtamojciiacmjaaaDoorRgRect
namespace Go.Proofs.YtamojciiacmjaaaDoor.Rg.Rc
open Num Go.RowKit
set_option linter.unusedVariables false
set_option linter.unusedSimpArgs false

set_option maxHeartbeats 1000000 in
theorem refMove_any (a b c d k l : Int) (w : World) (ho : Ok ⟨a, b, c, d⟩) (hk : -4398046511104 ≤ k ∧ k ≤ 4398046511104) (hl : -4398046511104 ≤ l ∧ l ≤ 4398046511104) :
    Calls Tryd.prog 28 #[.agg #[.int .i64 a, .int .i64 b, .int .i64 c, .int .i64 d], .int .i64 k, .int .i64 l] w fun e w' => e = .returned (.agg #[.int .i64 (moveR ⟨a, b, c, d⟩ k l).x0, .int .i64 (moveR ⟨a, b, c, d⟩ k l).y0, .int .i64 (moveR ⟨a, b, c, d⟩ k l).x1, .int .i64 (moveR ⟨a, b, c, d⟩ k l).y1]) ∧ Below w.heap.size w w' := by
  obtain ⟨⟨a0, a1⟩, ⟨b0, b1⟩, ⟨c0, c1⟩, d0, d1⟩ := ho
  dsimp only at a0 a1 b0 b1 c0 c1 d0 d1
  obtain ⟨k0, k1⟩ := hk
  obtain ⟨l0, l1⟩ := hl
  rcases h : empB ⟨a, b, c, d⟩ with _ | _
  · have E : moveR ⟨a, b, c, d⟩ k l = orN ⟨cutN (mvd a k), cutN (mvd b l), cutN (mvd c k), cutN (mvd d l)⟩ := by unfold moveR; rw [if_neg (by simp [h])]; rfl
    rw [E]
    clear E
    go_enter Tryd.func28, Tryd.ntmps28
    go_wp2_with (first | (go_at_call 27; refine (refEmpty_any _ _ _ _ _).mono ?_; rintro e w' ⟨rfl, hb⟩; have hB := via (w := w) (by go_grown) hb; have hz := hB.size; have hP : Has4 w' w.heap.size (.int .i64 a) (.int .i64 b) (.int .i64 c) (.int .i64 d) := ((Has4.new rfl _ _ _ _ _).alloc _).below hb; have hR : Has4 w' (w.heap.size + 1) (.int .i64 0) (.int .i64 0) (.int .i64 0) (.int .i64 0) := (Has4.new (by simp) _ _ _ _ _).below hb; clear hb; obtain ⟨p0, p1, p2, p3, pf⟩ := id hP; obtain ⟨r0, r1, r2, r3, rf⟩ := id hR))
    have hS : Sx w w.heap.size (w.heap.size + 1) (.int .i64 a) (.int .i64 b) (.int .i64 c) (.int .i64 d) w' := ⟨⟨p0, p1, p2, p3⟩, hB, by omega, _, _, _, _, hR⟩
    go_region_held3 (fun w' => (w'.cell? ⟨w.heap.size, 0, none⟩ = some (.int .i64 a) ∧ w'.cell? ⟨w.heap.size, 1, none⟩ = some (.int .i64 b) ∧ w'.cell? ⟨w.heap.size, 2, none⟩ = some (.int .i64 c) ∧ w'.cell? ⟨w.heap.size, 3, none⟩ = some (.int .i64 d)) ∧ Rest w (w.heap.size + 1) w') (repeat (first | with_reducible assumption | with_reducible refine sx_drew ?_ | with_reducible refine sx_alloc ?_ | with_reducible refine sx_set (by omega) ?_ | with_reducible refine sx_below ?_ ‹_›)) ((first | (go_at_call 55; refine (edge_any _ _ _ (by omega) (by omega)).mono ?_; rintro e w1 ⟨rfl, rfl⟩) | (go_at_call 41; refine (some_any _ _ _ _ _).mono ?_; rintro e w'2 ⟨rfl, hb2⟩; have hq : Sx w w.heap.size (w.heap.size + 1) (.int .i64 a) (.int .i64 b) (.int .i64 c) (.int .i64 d) w'2 := sx_below (by repeat (first | with_reducible assumption | with_reducible refine sx_drew ?_ | with_reducible refine sx_alloc ?_)) hb2; obtain ⟨hq1, hB2, hRle, u0, u1, u2, u3, t0, t1, t2, t3, tf⟩ := id hq)))
    go_wp2
    obtain ⟨s0, s1, s2, s3⟩ := set4 t0 t1 t2 t3 (.int .i64 (orN ⟨cutN (mvd a k), cutN (mvd b l), cutN (mvd c k), cutN (mvd d l)⟩).x0) (.int .i64 (orN ⟨cutN (mvd a k), cutN (mvd b l), cutN (mvd c k), cutN (mvd d l)⟩).y0) (.int .i64 (orN ⟨cutN (mvd a k), cutN (mvd b l), cutN (mvd c k), cutN (mvd d l)⟩).x1) (.int .i64 (orN ⟨cutN (mvd a k), cutN (mvd b l), cutN (mvd c k), cutN (mvd d l)⟩).y1)
    refine bodyPost_ret (v := .agg #[.int .i64 (orN ⟨cutN (mvd a k), cutN (mvd b l), cutN (mvd c k), cutN (mvd d l)⟩).x0, .int .i64 (orN ⟨cutN (mvd a k), cutN (mvd b l), cutN (mvd c k), cutN (mvd d l)⟩).y0, .int .i64 (orN ⟨cutN (mvd a k), cutN (mvd b l), cutN (mvd c k), cutN (mvd d l)⟩).x1, .int .i64 (orN ⟨cutN (mvd a k), cutN (mvd b l), cutN (mvd c k), cutN (mvd d l)⟩).y1]) (by simp [results, Tryd.results28, go_sem, s0, s1, s2, s3]) rfl ⟨rfl, ?_⟩
    go_grown
  · have E : moveR ⟨a, b, c, d⟩ k l = nil := by unfold moveR; rw [if_pos h]
    rw [E]
    clear E
    go_enter Tryd.func28, Tryd.ntmps28
    go_wp2_with (first | (go_at_call 27; refine (refEmpty_any _ _ _ _ _).mono ?_; rintro e w' ⟨rfl, hb⟩; have hB := via (w := w) (by go_grown) hb; have hz := hB.size; have hP : Has4 w' w.heap.size (.int .i64 a) (.int .i64 b) (.int .i64 c) (.int .i64 d) := ((Has4.new rfl _ _ _ _ _).alloc _).below hb; have hR : Has4 w' (w.heap.size + 1) (.int .i64 0) (.int .i64 0) (.int .i64 0) (.int .i64 0) := (Has4.new (by simp) _ _ _ _ _).below hb; clear hb; obtain ⟨p0, p1, p2, p3, pf⟩ := id hP; obtain ⟨r0, r1, r2, r3, rf⟩ := id hR))
    obtain ⟨s0, s1, s2, s3⟩ := set4 r0 r1 r2 r3 (.int .i64 0) (.int .i64 0) (.int .i64 0) (.int .i64 0)
    refine bodyPost_ret (v := .agg #[.int .i64 0, .int .i64 0, .int .i64 0, .int .i64 0]) (by simp [results, Tryd.results28, go_sem, s0, s1, s2, s3]) rfl ⟨rfl, ?_⟩
    go_grown

set_option maxHeartbeats 1000000 in
theorem refGrow_any (a b c d k l m n : Int) (w : World) (ho : Ok ⟨a, b, c, d⟩) (hk : 0 ≤ k ∧ k ≤ 4398046511104) (hl : 0 ≤ l ∧ l ≤ 4398046511104) (hm : 0 ≤ m ∧ m ≤ 4398046511104) (hn : 0 ≤ n ∧ n ≤ 4398046511104) :
    Calls Tryd.prog 29 #[.agg #[.int .i64 a, .int .i64 b, .int .i64 c, .int .i64 d], .int .i64 k, .int .i64 l, .int .i64 m, .int .i64 n] w fun e w' => e = .returned (.agg #[.int .i64 (grow ⟨a, b, c, d⟩ k l m n).x0, .int .i64 (grow ⟨a, b, c, d⟩ k l m n).y0, .int .i64 (grow ⟨a, b, c, d⟩ k l m n).x1, .int .i64 (grow ⟨a, b, c, d⟩ k l m n).y1]) ∧ Below w.heap.size w w' := by
  obtain ⟨⟨a0, a1⟩, ⟨b0, b1⟩, ⟨c0, c1⟩, d0, d1⟩ := ho
  dsimp only at a0 a1 b0 b1 c0 c1 d0 d1
  obtain ⟨k0, k1⟩ := hk
  obtain ⟨l0, l1⟩ := hl
  obtain ⟨m0, m1⟩ := hm
  obtain ⟨n0, n1⟩ := hn
  have e0 : IntKind.i64.wrap (a - k) = a - k := by rw [IntKind.wrap_i64]; omega
  have e1 : IntKind.i64.wrap (b - l) = b - l := by rw [IntKind.wrap_i64]; omega
  have e2 : IntKind.i64.wrap (c + m) = c + m := by rw [IntKind.wrap_i64]; omega
  have e3 : IntKind.i64.wrap (d + n) = d + n := by rw [IntKind.wrap_i64]; omega
  rcases h : empB ⟨a, b, c, d⟩ with _ | _
  · have E : grow ⟨a, b, c, d⟩ k l m n = orN ⟨cutN (a - k), cutN (b - l), cutN (c + m), cutN (d + n)⟩ := by unfold grow; rw [if_neg (by simp [h])]; rfl
    rw [E]
    clear E
    go_enter Tryd.func29, Tryd.ntmps29
    go_wp2_with (first | (go_at_call 27; refine (refEmpty_any _ _ _ _ _).mono ?_; rintro e w' ⟨rfl, hb⟩; have hB := via (w := w) (by go_grown) hb; have hz := hB.size; have hP : Has4 w' w.heap.size (.int .i64 a) (.int .i64 b) (.int .i64 c) (.int .i64 d) := ((Has4.new rfl _ _ _ _ _).alloc _).below hb; have hR : Has4 w' (w.heap.size + 1) (.int .i64 0) (.int .i64 0) (.int .i64 0) (.int .i64 0) := (Has4.new (by simp) _ _ _ _ _).below hb; clear hb; obtain ⟨p0, p1, p2, p3, pf⟩ := id hP; obtain ⟨r0, r1, r2, r3, rf⟩ := id hR))
    have hS : Sx w w.heap.size (w.heap.size + 1) (.int .i64 a) (.int .i64 b) (.int .i64 c) (.int .i64 d) w' := ⟨⟨p0, p1, p2, p3⟩, hB, by omega, _, _, _, _, hR⟩
    go_region_held3 (fun w' => (w'.cell? ⟨w.heap.size, 0, none⟩ = some (.int .i64 a) ∧ w'.cell? ⟨w.heap.size, 1, none⟩ = some (.int .i64 b) ∧ w'.cell? ⟨w.heap.size, 2, none⟩ = some (.int .i64 c) ∧ w'.cell? ⟨w.heap.size, 3, none⟩ = some (.int .i64 d)) ∧ Rest w (w.heap.size + 1) w') (repeat (first | with_reducible assumption | with_reducible refine sx_drew ?_ | with_reducible refine sx_alloc ?_ | with_reducible refine sx_set (by omega) ?_ | with_reducible refine sx_below ?_ ‹_›)) ((first | (go_at_call 56; refine (refCut_any _ _).mono ?_; rintro e w1 ⟨rfl, rfl⟩) | (go_at_call 41; refine (some_any _ _ _ _ _).mono ?_; rintro e w'2 ⟨rfl, hb2⟩; have hq : Sx w w.heap.size (w.heap.size + 1) (.int .i64 a) (.int .i64 b) (.int .i64 c) (.int .i64 d) w'2 := sx_below (by repeat (first | with_reducible assumption | with_reducible refine sx_drew ?_ | with_reducible refine sx_alloc ?_)) hb2; obtain ⟨hq1, hB2, hRle, u0, u1, u2, u3, t0, t1, t2, t3, tf⟩ := id hq)))
    go_wp2
    obtain ⟨s0, s1, s2, s3⟩ := set4 t0 t1 t2 t3 (.int .i64 (orN ⟨cutN (a - k), cutN (b - l), cutN (c + m), cutN (d + n)⟩).x0) (.int .i64 (orN ⟨cutN (a - k), cutN (b - l), cutN (c + m), cutN (d + n)⟩).y0) (.int .i64 (orN ⟨cutN (a - k), cutN (b - l), cutN (c + m), cutN (d + n)⟩).x1) (.int .i64 (orN ⟨cutN (a - k), cutN (b - l), cutN (c + m), cutN (d + n)⟩).y1)
    refine bodyPost_ret (v := .agg #[.int .i64 (orN ⟨cutN (a - k), cutN (b - l), cutN (c + m), cutN (d + n)⟩).x0, .int .i64 (orN ⟨cutN (a - k), cutN (b - l), cutN (c + m), cutN (d + n)⟩).y0, .int .i64 (orN ⟨cutN (a - k), cutN (b - l), cutN (c + m), cutN (d + n)⟩).x1, .int .i64 (orN ⟨cutN (a - k), cutN (b - l), cutN (c + m), cutN (d + n)⟩).y1]) (by simp [results, Tryd.results29, go_sem, s0, s1, s2, s3]) rfl ⟨rfl, ?_⟩
    go_grown
  · have E : grow ⟨a, b, c, d⟩ k l m n = nil := by unfold grow; rw [if_pos h]
    rw [E]
    clear E
    go_enter Tryd.func29, Tryd.ntmps29
    go_wp2_with (first | (go_at_call 27; refine (refEmpty_any _ _ _ _ _).mono ?_; rintro e w' ⟨rfl, hb⟩; have hB := via (w := w) (by go_grown) hb; have hz := hB.size; have hP : Has4 w' w.heap.size (.int .i64 a) (.int .i64 b) (.int .i64 c) (.int .i64 d) := ((Has4.new rfl _ _ _ _ _).alloc _).below hb; have hR : Has4 w' (w.heap.size + 1) (.int .i64 0) (.int .i64 0) (.int .i64 0) (.int .i64 0) := (Has4.new (by simp) _ _ _ _ _).below hb; clear hb; obtain ⟨p0, p1, p2, p3, pf⟩ := id hP; obtain ⟨r0, r1, r2, r3, rf⟩ := id hR))
    obtain ⟨s0, s1, s2, s3⟩ := set4 r0 r1 r2 r3 (.int .i64 0) (.int .i64 0) (.int .i64 0) (.int .i64 0)
    refine bodyPost_ret (v := .agg #[.int .i64 0, .int .i64 0, .int .i64 0, .int .i64 0]) (by simp [results, Tryd.results29, go_sem, s0, s1, s2, s3]) rfl ⟨rfl, ?_⟩
    go_grown

end Go.Proofs.YtamojciiacmjaaaDoor.Rg.Rc
