/- What the functions that join, cut, move and grow rectangles do, as contracts. -/
import Derived.Test.YtfgfgfmimejpdaaRMoves
import Derived.Deep.RegionHeld3
namespace Go.Proofs.Ytfgfgfmimejpdaa.Rc
open Num Go.RowKit
set_option linter.unusedVariables false
set_option linter.unusedSimpArgs false
attribute [local go_sem ↓] run_min_i64 run_max_i64

set_option maxHeartbeats 1000000 in
theorem cut_any (g : Nat) (a b c d : Int) (w : World) (h0 : w.cell? ⟨g, 0, none⟩ = some (.int .i64 a)) (h1 : w.cell? ⟨g, 1, none⟩ = some (.int .i64 b)) (h2 : w.cell? ⟨g, 2, none⟩ = some (.int .i64 c)) (h3 : w.cell? ⟨g, 3, none⟩ = some (.int .i64 d)) :
    Calls Try.prog 69 #[.slice (some ⟨g, 0, none⟩) 4 4] w fun e w' => e = .returned (.agg #[.int .i64 (cutR a b c d).x0, .int .i64 (cutR a b c d).y0, .int .i64 (cutR a b c d).x1, .int .i64 (cutR a b c d).y1]) ∧ Below w.heap.size w w' := by
  have hg : g < w.heap.size := World.block_lt_of_cell? w ⟨g, 0, none⟩ h0
  have hg1 : g < w.heap.size + 1 := by omega
  have ne : ¬ w.heap.size + 1 = g := by omega
  have ne' : ¬ g = w.heap.size + 1 := by omega
  have E : orN ⟨mx (-4398046511104) (mn a 4398046511104), mx (-4398046511104) (mn b 4398046511104), mx (-4398046511104) (mn c 4398046511104), mx (-4398046511104) (mn d 4398046511104)⟩ = cutR a b c d := rfl
  go_enter Try.func69, Try.ntmps69
  go_wp2
  refine wp_loop_rounds 5 ?_
  rw [rounds_succ]
  go_wp2
  rw [rounds_succ]
  go_wp2
  rw [rounds_succ]
  go_wp2
  rw [rounds_succ]
  go_wp2
  rw [rounds_succ]
  go_wp2_with (go_at_call 68; refine (orNone_any _ _ _ _ _).mono ?_; rintro e w' ⟨rfl, hb⟩; have hB := via (w := w) (by go_grown) hb; obtain ⟨hc, hf⟩ := bcell hb; have hz0 : w.heap.size < w'.heap.size := (by have := hb.size; simp at this; omega); have hz1 : w.heap.size + 1 < w'.heap.size := (by have := hb.size; simp at this; omega))
  have k0 : w'.cell? ⟨w.heap.size, 0, none⟩ = some (.int .i64 0) := by rw [hc _ _ (by go_size)]; simp [go_sem, World.cell?_alloc_past]
  have k1 : w'.cell? ⟨w.heap.size, 1, none⟩ = some (.int .i64 0) := by rw [hc _ _ (by go_size)]; simp [go_sem, World.cell?_alloc_past]
  have k2 : w'.cell? ⟨w.heap.size, 2, none⟩ = some (.int .i64 0) := by rw [hc _ _ (by go_size)]; simp [go_sem, World.cell?_alloc_past]
  have k3 : w'.cell? ⟨w.heap.size, 3, none⟩ = some (.int .i64 0) := by rw [hc _ _ (by go_size)]; simp [go_sem, World.cell?_alloc_past]
  obtain ⟨s0, s1, s2, s3⟩ := set4 k0 k1 k2 k3 (.int .i64 (cutR a b c d).x0) (.int .i64 (cutR a b c d).y0) (.int .i64 (cutR a b c d).x1) (.int .i64 (cutR a b c d).y1)
  refine bodyPost_ret (v := .agg #[.int .i64 (cutR a b c d).x0, .int .i64 (cutR a b c d).y0, .int .i64 (cutR a b c d).x1, .int .i64 (cutR a b c d).y1]) (by simp [results, Try.results69, go_sem, s0, s1, s2, s3]) rfl ⟨rfl, ?_⟩
  go_grown

set_option maxHeartbeats 400000 in
theorem grow_any (a b c d k l m n : Int) (w : World) (ho : Ok ⟨a, b, c, d⟩) (hk : 0 ≤ k ∧ k ≤ 4398046511104) (hl : 0 ≤ l ∧ l ≤ 4398046511104) (hm : 0 ≤ m ∧ m ≤ 4398046511104) (hn : 0 ≤ n ∧ n ≤ 4398046511104) :
    Calls Try.prog 54 #[.agg #[.int .i64 a, .int .i64 b, .int .i64 c, .int .i64 d], .int .i64 k, .int .i64 l, .int .i64 m, .int .i64 n] w fun e w' => e = .returned (.agg #[.int .i64 (grow ⟨a, b, c, d⟩ k l m n).x0, .int .i64 (grow ⟨a, b, c, d⟩ k l m n).y0, .int .i64 (grow ⟨a, b, c, d⟩ k l m n).x1, .int .i64 (grow ⟨a, b, c, d⟩ k l m n).y1]) ∧ Below w.heap.size w w' := by
  obtain ⟨⟨a0, a1⟩, ⟨b0, b1⟩, ⟨c0, c1⟩, d0, d1⟩ := ho
  dsimp only at a0 a1 b0 b1 c0 c1 d0 d1
  obtain ⟨k0, k1⟩ := hk
  obtain ⟨l0, l1⟩ := hl
  obtain ⟨m0, m1⟩ := hm
  obtain ⟨n0, n1⟩ := hn
  rcases h : empB ⟨a, b, c, d⟩ with _ | _
  · have E : grow ⟨a, b, c, d⟩ k l m n = cutR (a - k) (b - l) (c + m) (d + n) := by unfold grow; rw [if_neg (by simp [h])]
    rw [E]
    clear E
    go_enter Try.func54, Try.ntmps54
    go_wp2_with (first | (go_at_call 37; refine (empty_any _ _ _ _ _).mono ?_; rintro e w' ⟨rfl, hb⟩; have hB := via (w := w) (by go_grown) hb; have hz := hB.size; have hP : Has4 w' w.heap.size (.int .i64 a) (.int .i64 b) (.int .i64 c) (.int .i64 d) := ((Has4.new rfl _ _ _ _ _).alloc _).below hb; have hR : Has4 w' (w.heap.size + 1) (.int .i64 0) (.int .i64 0) (.int .i64 0) (.int .i64 0) := (Has4.new (by simp) _ _ _ _ _).below hb; clear hb; obtain ⟨p0, p1, p2, p3, pf⟩ := id hP; obtain ⟨r0, r1, r2, r3, rf⟩ := id hR) | (go_at_call 69; refine (cut_any _ (a - k) (b - l) (c + m) (d + n) _ (by simp) (by simp) (by simp) (by simp)).mono ?_; rintro e w'2 ⟨rfl, hb2⟩; have hR2 := (hR.alloc _).below hb2; have hB2 := via (w := w) (by go_grown) hb2; clear hb2 hB r0 r1 r2 r3 rf; obtain ⟨r0, r1, r2, r3, rf⟩ := id hR2))
    obtain ⟨s0, s1, s2, s3⟩ := set4 r0 r1 r2 r3 (.int .i64 (cutR (a - k) (b - l) (c + m) (d + n)).x0) (.int .i64 (cutR (a - k) (b - l) (c + m) (d + n)).y0) (.int .i64 (cutR (a - k) (b - l) (c + m) (d + n)).x1) (.int .i64 (cutR (a - k) (b - l) (c + m) (d + n)).y1)
    refine bodyPost_ret (v := .agg #[.int .i64 (cutR (a - k) (b - l) (c + m) (d + n)).x0, .int .i64 (cutR (a - k) (b - l) (c + m) (d + n)).y0, .int .i64 (cutR (a - k) (b - l) (c + m) (d + n)).x1, .int .i64 (cutR (a - k) (b - l) (c + m) (d + n)).y1]) (by simp [results, Try.results54, go_sem, s0, s1, s2, s3]) rfl ⟨rfl, ?_⟩
    go_grown

  · have E : grow ⟨a, b, c, d⟩ k l m n = nil := by unfold grow; rw [if_pos h]
    rw [E]
    clear E
    go_enter Try.func54, Try.ntmps54
    go_wp2_with (first | (go_at_call 37; refine (empty_any _ _ _ _ _).mono ?_; rintro e w' ⟨rfl, hb⟩; have hB := via (w := w) (by go_grown) hb; have hz := hB.size; have hP : Has4 w' w.heap.size (.int .i64 a) (.int .i64 b) (.int .i64 c) (.int .i64 d) := ((Has4.new rfl _ _ _ _ _).alloc _).below hb; have hR : Has4 w' (w.heap.size + 1) (.int .i64 0) (.int .i64 0) (.int .i64 0) (.int .i64 0) := (Has4.new (by simp) _ _ _ _ _).below hb; clear hb; obtain ⟨p0, p1, p2, p3, pf⟩ := id hP; obtain ⟨r0, r1, r2, r3, rf⟩ := id hR))
    obtain ⟨s0, s1, s2, s3⟩ := set4 r0 r1 r2 r3 (.int .i64 0) (.int .i64 0) (.int .i64 0) (.int .i64 0)
    refine bodyPost_ret (v := .agg #[.int .i64 0, .int .i64 0, .int .i64 0, .int .i64 0]) (by simp [results, Try.results54, go_sem, s0, s1, s2, s3]) rfl ⟨rfl, ?_⟩
    go_grown



set_option maxHeartbeats 1000000 in
theorem refGrow_any (a b c d k l m n : Int) (w : World) (ho : Ok ⟨a, b, c, d⟩) (hk : 0 ≤ k ∧ k ≤ 4398046511104) (hl : 0 ≤ l ∧ l ≤ 4398046511104) (hm : 0 ≤ m ∧ m ≤ 4398046511104) (hn : 0 ≤ n ∧ n ≤ 4398046511104) :
    Calls Try.prog 53 #[.agg #[.int .i64 a, .int .i64 b, .int .i64 c, .int .i64 d], .int .i64 k, .int .i64 l, .int .i64 m, .int .i64 n] w fun e w' => e = .returned (.agg #[.int .i64 (grow ⟨a, b, c, d⟩ k l m n).x0, .int .i64 (grow ⟨a, b, c, d⟩ k l m n).y0, .int .i64 (grow ⟨a, b, c, d⟩ k l m n).x1, .int .i64 (grow ⟨a, b, c, d⟩ k l m n).y1]) ∧ Below w.heap.size w w' := by
  obtain ⟨⟨a0, a1⟩, ⟨b0, b1⟩, ⟨c0, c1⟩, d0, d1⟩ := ho
  dsimp only at a0 a1 b0 b1 c0 c1 d0 d1
  obtain ⟨k0, k1⟩ := hk
  obtain ⟨l0, l1⟩ := hl
  obtain ⟨m0, m1⟩ := hm
  obtain ⟨n0, n1⟩ := hn
  have e0 : IntKind.i64.wrap (a - k) = a - k := by rw [IntKind.wrap_i64]; omega
  have e1 : IntKind.i64.wrap (b - l) = b - l := by rw [IntKind.wrap_i64]; omega
  have e2 : IntKind.i64.wrap (c + m) = c + m := by rw [IntKind.wrap_i64]; omega
  have e3 : IntKind.i64.wrap (d + n) = d + n := by rw [IntKind.wrap_i64]; omega
  rcases h : empB ⟨a, b, c, d⟩ with _ | _
  · have E : grow ⟨a, b, c, d⟩ k l m n = orN ⟨cutN (a - k), cutN (b - l), cutN (c + m), cutN (d + n)⟩ := by unfold grow; rw [if_neg (by simp [h])]; rfl
    rw [E]
    clear E
    go_enter Try.func53, Try.ntmps53
    go_wp2_with (first | (go_at_call 15; refine (refEmpty_any _ _ _ _ _).mono ?_; rintro e w' ⟨rfl, hb⟩; have hB := via (w := w) (by go_grown) hb; have hz := hB.size; have hP : Has4 w' w.heap.size (.int .i64 a) (.int .i64 b) (.int .i64 c) (.int .i64 d) := ((Has4.new rfl _ _ _ _ _).alloc _).below hb; have hR : Has4 w' (w.heap.size + 1) (.int .i64 0) (.int .i64 0) (.int .i64 0) (.int .i64 0) := (Has4.new (by simp) _ _ _ _ _).below hb; clear hb; obtain ⟨p0, p1, p2, p3, pf⟩ := id hP; obtain ⟨r0, r1, r2, r3, rf⟩ := id hR))
    have hS : Sx w w.heap.size (w.heap.size + 1) (.int .i64 a) (.int .i64 b) (.int .i64 c) (.int .i64 d) w' := ⟨⟨p0, p1, p2, p3⟩, hB, by omega, _, _, _, _, hR⟩
    go_region_held3 (fun w' => (w'.cell? ⟨w.heap.size, 0, none⟩ = some (.int .i64 a) ∧ w'.cell? ⟨w.heap.size, 1, none⟩ = some (.int .i64 b) ∧ w'.cell? ⟨w.heap.size, 2, none⟩ = some (.int .i64 c) ∧ w'.cell? ⟨w.heap.size, 3, none⟩ = some (.int .i64 d)) ∧ Rest w (w.heap.size + 1) w') (repeat (first | with_reducible assumption | with_reducible refine sx_drew ?_ | with_reducible refine sx_alloc ?_ | with_reducible refine sx_set (by omega) ?_ | with_reducible refine sx_below ?_ ‹_›)) ((first | (go_at_call 72; refine (refCut_any _ _).mono ?_; rintro e w1 ⟨rfl, rfl⟩) | (go_at_call 71; refine (some_any _ _ _ _ _).mono ?_; rintro e w'2 ⟨rfl, hb2⟩; have hq : Sx w w.heap.size (w.heap.size + 1) (.int .i64 a) (.int .i64 b) (.int .i64 c) (.int .i64 d) w'2 := sx_below (by repeat (first | with_reducible assumption | with_reducible refine sx_drew ?_ | with_reducible refine sx_alloc ?_)) hb2; obtain ⟨hq1, hB2, hRle, u0, u1, u2, u3, t0, t1, t2, t3, tf⟩ := id hq)))
    go_wp2
    obtain ⟨s0, s1, s2, s3⟩ := set4 t0 t1 t2 t3 (.int .i64 (orN ⟨cutN (a - k), cutN (b - l), cutN (c + m), cutN (d + n)⟩).x0) (.int .i64 (orN ⟨cutN (a - k), cutN (b - l), cutN (c + m), cutN (d + n)⟩).y0) (.int .i64 (orN ⟨cutN (a - k), cutN (b - l), cutN (c + m), cutN (d + n)⟩).x1) (.int .i64 (orN ⟨cutN (a - k), cutN (b - l), cutN (c + m), cutN (d + n)⟩).y1)
    refine bodyPost_ret (v := .agg #[.int .i64 (orN ⟨cutN (a - k), cutN (b - l), cutN (c + m), cutN (d + n)⟩).x0, .int .i64 (orN ⟨cutN (a - k), cutN (b - l), cutN (c + m), cutN (d + n)⟩).y0, .int .i64 (orN ⟨cutN (a - k), cutN (b - l), cutN (c + m), cutN (d + n)⟩).x1, .int .i64 (orN ⟨cutN (a - k), cutN (b - l), cutN (c + m), cutN (d + n)⟩).y1]) (by simp [results, Try.results53, go_sem, s0, s1, s2, s3]) rfl ⟨rfl, ?_⟩
    go_grown
  · have E : grow ⟨a, b, c, d⟩ k l m n = nil := by unfold grow; rw [if_pos h]
    rw [E]
    clear E
    go_enter Try.func53, Try.ntmps53
    go_wp2_with (first | (go_at_call 15; refine (refEmpty_any _ _ _ _ _).mono ?_; rintro e w' ⟨rfl, hb⟩; have hB := via (w := w) (by go_grown) hb; have hz := hB.size; have hP : Has4 w' w.heap.size (.int .i64 a) (.int .i64 b) (.int .i64 c) (.int .i64 d) := ((Has4.new rfl _ _ _ _ _).alloc _).below hb; have hR : Has4 w' (w.heap.size + 1) (.int .i64 0) (.int .i64 0) (.int .i64 0) (.int .i64 0) := (Has4.new (by simp) _ _ _ _ _).below hb; clear hb; obtain ⟨p0, p1, p2, p3, pf⟩ := id hP; obtain ⟨r0, r1, r2, r3, rf⟩ := id hR))
    obtain ⟨s0, s1, s2, s3⟩ := set4 r0 r1 r2 r3 (.int .i64 0) (.int .i64 0) (.int .i64 0) (.int .i64 0)
    refine bodyPost_ret (v := .agg #[.int .i64 0, .int .i64 0, .int .i64 0, .int .i64 0]) (by simp [results, Try.results53, go_sem, s0, s1, s2, s3]) rfl ⟨rfl, ?_⟩
    go_grown

end Go.Proofs.Ytfgfgfmimejpdaa.Rc
