/- The document's join of two rectangles, and its bounds of a region: contracts. -/
import Derived.Test.YtlakklpnajgjiaaBounds
namespace Go.Proofs.Ytlakklpnajgjiaa.Rc
open Num Go.RowKit
set_option linter.unusedVariables false
set_option linter.unusedSimpArgs false

abbrev Sj (w : World) (p q k : Nat) (v0 v1 v2 v3 u0 u1 u2 u3 : Int) (w' : World) : Prop := (w'.cell? ⟨p, 0, none⟩ = some (.int .i64 v0) ∧ w'.cell? ⟨p, 1, none⟩ = some (.int .i64 v1) ∧ w'.cell? ⟨p, 2, none⟩ = some (.int .i64 v2) ∧ w'.cell? ⟨p, 3, none⟩ = some (.int .i64 v3) ∧ w'.cell? ⟨q, 0, none⟩ = some (.int .i64 u0) ∧ w'.cell? ⟨q, 1, none⟩ = some (.int .i64 u1) ∧ w'.cell? ⟨q, 2, none⟩ = some (.int .i64 u2) ∧ w'.cell? ⟨q, 3, none⟩ = some (.int .i64 u3)) ∧ Rest w k w'
theorem sj_below {w : World} {p q k : Nat} {v0 v1 v2 v3 u0 u1 u2 u3 : Int} {w1 w2 : World} (h : Sj w p q k v0 v1 v2 v3 u0 u1 u2 u3 w1) (hb : Below w1.heap.size w1 w2) : Sj w p q k v0 v1 v2 v3 u0 u1 u2 u3 w2 := by
  obtain ⟨⟨c0, c1, c2, c3, d0, d1, d2, d3⟩, hB, hk, x0, x1, x2, x3, hR⟩ := h
  have hp : p < w1.heap.size := World.block_lt_of_cell? w1 ⟨p, 0, none⟩ c0
  have hq : q < w1.heap.size := World.block_lt_of_cell? w1 ⟨q, 0, none⟩ d0
  obtain ⟨hc, hf⟩ := bcell hb
  exact ⟨⟨by rw [hc _ _ hp]; exact c0, by rw [hc _ _ hp]; exact c1, by rw [hc _ _ hp]; exact c2, by rw [hc _ _ hp]; exact c3, by rw [hc _ _ hq]; exact d0, by rw [hc _ _ hq]; exact d1, by rw [hc _ _ hq]; exact d2, by rw [hc _ _ hq]; exact d3⟩, via hB hb, hk, x0, x1, x2, x3, hR.below hb⟩
theorem sj_drew {w : World} {p q k : Nat} {v0 v1 v2 v3 u0 u1 u2 u3 : Int} {w1 : World} (h : Sj w p q k v0 v1 v2 v3 u0 u1 u2 u3 w1) : Sj w p q k v0 v1 v2 v3 u0 u1 u2 u3 w1.drew := sj_below h (Below.refl _ _).drew
theorem sj_alloc {w : World} {p q k : Nat} {v0 v1 v2 v3 u0 u1 u2 u3 : Int} {w1 : World} {o : Obj} (h : Sj w p q k v0 v1 v2 v3 u0 u1 u2 u3 w1) : Sj w p q k v0 v1 v2 v3 u0 u1 u2 u3 (w1.alloc o) :=
  sj_below h ((Below.refl _ _).alloc (Nat.le_refl _) _)
theorem sj_set {w : World} {p q k : Nat} {v0 v1 v2 v3 u0 u1 u2 u3 : Int} {w1 : World} {x0 x1 x2 x3 : Value} (ne : k ≠ p) (ne' : k ≠ q) (h : Sj w p q k v0 v1 v2 v3 u0 u1 u2 u3 w1) :
    Sj w p q k v0 v1 v2 v3 u0 u1 u2 u3 ((((w1.setCell ⟨k, 0, none⟩ x0).setCell ⟨k, 1, none⟩ x1).setCell ⟨k, 2, none⟩ x2).setCell ⟨k, 3, none⟩ x3) := by
  obtain ⟨⟨c0, c1, c2, c3, d0, d1, d2, d3⟩, hB, hk, y0, y1, y2, y3, hR⟩ := h
  obtain ⟨s0, s1, s2, s3⟩ := set4 hR.c0 hR.c1 hR.c2 hR.c3 x0 x1 x2 x3
  refine ⟨⟨?_, ?_, ?_, ?_, ?_, ?_, ?_, ?_⟩, ?_, hk, x0, x1, x2, x3, s0, s1, s2, s3, fun o => ?_⟩
  · simp [World.cell?_setCell_far, ne, c0]
  · simp [World.cell?_setCell_far, ne, c1]
  · simp [World.cell?_setCell_far, ne, c2]
  · simp [World.cell?_setCell_far, ne, c3]
  · simp [World.cell?_setCell_far, ne', d0]
  · simp [World.cell?_setCell_far, ne', d1]
  · simp [World.cell?_setCell_far, ne', d2]
  · simp [World.cell?_setCell_far, ne', d3]
  · exact (((hB.setCell (by exact hk) _).setCell (by exact hk) _).setCell (by exact hk) _).setCell (by exact hk) _
  · simp [World.frozen?_setCell, hR.fz o]

theorem orN_both {a b c d p q r s : Int} (h : empB ⟨a, b, c, d⟩ = false) (h' : empB ⟨p, q, r, s⟩ = false) : join ⟨a, b, c, d⟩ ⟨p, q, r, s⟩ = orN ⟨mn a p, mn b q, mx c r, mx d s⟩ := by
  have e : empB ⟨mn a p, mn b q, mx c r, mx d s⟩ = false := by
    unfold empB at *
    unfold mn mx
    simp at *
    omega
  unfold join orN
  rw [if_neg (by simp [h]), if_neg (by simp [h']), if_neg (by simp [e])]

set_option maxHeartbeats 1000000 in
theorem refJoin_any (a b c d p q r s : Int) (w : World) :
    Calls Try.prog 53 #[.agg #[.int .i64 a, .int .i64 b, .int .i64 c, .int .i64 d], .agg #[.int .i64 p, .int .i64 q, .int .i64 r, .int .i64 s]] w fun e w' => e = .returned (.agg #[.int .i64 (join ⟨a, b, c, d⟩ ⟨p, q, r, s⟩).x0, .int .i64 (join ⟨a, b, c, d⟩ ⟨p, q, r, s⟩).y0, .int .i64 (join ⟨a, b, c, d⟩ ⟨p, q, r, s⟩).x1, .int .i64 (join ⟨a, b, c, d⟩ ⟨p, q, r, s⟩).y1]) ∧ Below w.heap.size w w' := by
  rcases h : empB ⟨a, b, c, d⟩ with _ | _
  · rcases h' : empB ⟨p, q, r, s⟩ with _ | _
    · rw [orN_both h h']
      go_enter Try.func53, Try.ntmps53
      go_wp2_with (first | (go_at_call 38; have hP := hP; refine (refEmpty_any _ _ _ _ _).mono ?_; rintro e w'2 ⟨rfl, hb2⟩; have hB2 := via hB hb2; have hP2 := hP.below hb2; have hQ2 := hQ.below hb2; have hR2 := hR.below hb2; clear hb2; obtain ⟨p02, p12, p22, p32, pf2⟩ := id hP2; obtain ⟨q02, q12, q22, q32, qf2⟩ := id hQ2; obtain ⟨r02, r12, r22, r32, rf2⟩ := id hR2) | (go_at_call 38; refine (refEmpty_any _ _ _ _ _).mono ?_; rintro e w' ⟨rfl, hb⟩; have hB := via (w := w) (by go_grown) hb; have hz := hB.size; have hP : Has4 w' w.heap.size (.int .i64 a) (.int .i64 b) (.int .i64 c) (.int .i64 d) := (((Has4.new rfl _ _ _ _ _).alloc _).alloc _).below hb; have hQ : Has4 w' (w.heap.size + 1) (.int .i64 p) (.int .i64 q) (.int .i64 r) (.int .i64 s) := ((Has4.new (by simp) _ _ _ _ _).alloc _).below hb; have hR : Has4 w' (w.heap.size + 1 + 1) (.int .i64 0) (.int .i64 0) (.int .i64 0) (.int .i64 0) := (Has4.new (by simp) _ _ _ _ _).below hb; clear hb; obtain ⟨p0, p1, p2, p3, pf⟩ := id hP; obtain ⟨q0, q1, q2, q3, qf⟩ := id hQ; obtain ⟨r0, r1, r2, r3, rf⟩ := id hR))
      have hS : Sj w w.heap.size (w.heap.size + 1) (w.heap.size + 1 + 1) a b c d p q r s w'2 := ⟨⟨p02, p12, p22, p32, q02, q12, q22, q32⟩, hB2, by omega, _, _, _, _, hR2⟩
      go_region_held3 (fun w' => (w'.cell? ⟨w.heap.size, 0, none⟩ = some (.int .i64 a) ∧ w'.cell? ⟨w.heap.size, 1, none⟩ = some (.int .i64 b) ∧ w'.cell? ⟨w.heap.size, 2, none⟩ = some (.int .i64 c) ∧ w'.cell? ⟨w.heap.size, 3, none⟩ = some (.int .i64 d) ∧ w'.cell? ⟨w.heap.size + 1, 0, none⟩ = some (.int .i64 p) ∧ w'.cell? ⟨w.heap.size + 1, 1, none⟩ = some (.int .i64 q) ∧ w'.cell? ⟨w.heap.size + 1, 2, none⟩ = some (.int .i64 r) ∧ w'.cell? ⟨w.heap.size + 1, 3, none⟩ = some (.int .i64 s)) ∧ Rest w (w.heap.size + 1 + 1) w') (repeat (first | with_reducible assumption | with_reducible refine sj_drew ?_ | with_reducible refine sj_alloc ?_ | with_reducible refine sj_set (by omega) (by omega) ?_ | with_reducible refine sj_below ?_ ‹_›)) ((first | (go_at_call 70; refine (less_any _ _ _).mono ?_; rintro e w1 ⟨rfl, rfl⟩) | (go_at_call 71; refine (more_any _ _ _).mono ?_; rintro e w1 ⟨rfl, rfl⟩) | (go_at_call 66; refine (some_any _ _ _ _ _).mono ?_; rintro e w3 ⟨rfl, hb3⟩; have hq : Sj w w.heap.size (w.heap.size + 1) (w.heap.size + 1 + 1) a b c d p q r s w3 := sj_below (by repeat (first | with_reducible assumption | with_reducible refine sj_drew ?_ | with_reducible refine sj_alloc ?_)) hb3; obtain ⟨hq1, hB3, hRle, u0, u1, u2, u3, t0, t1, t2, t3, tf⟩ := id hq)))
      go_wp2
      obtain ⟨s0, s1, s2, s3⟩ := set4 t0 t1 t2 t3 (.int .i64 (orN ⟨mn a p, mn b q, mx c r, mx d s⟩).x0) (.int .i64 (orN ⟨mn a p, mn b q, mx c r, mx d s⟩).y0) (.int .i64 (orN ⟨mn a p, mn b q, mx c r, mx d s⟩).x1) (.int .i64 (orN ⟨mn a p, mn b q, mx c r, mx d s⟩).y1)
      refine bodyPost_ret (v := .agg #[.int .i64 (orN ⟨mn a p, mn b q, mx c r, mx d s⟩).x0, .int .i64 (orN ⟨mn a p, mn b q, mx c r, mx d s⟩).y0, .int .i64 (orN ⟨mn a p, mn b q, mx c r, mx d s⟩).x1, .int .i64 (orN ⟨mn a p, mn b q, mx c r, mx d s⟩).y1]) (by simp [results, Try.results53, go_sem, s0, s1, s2, s3]) rfl ⟨rfl, ?_⟩
      go_grown
    · have E : join ⟨a, b, c, d⟩ ⟨p, q, r, s⟩ = ⟨a, b, c, d⟩ := by unfold join; rw [if_neg (by simp [h]), if_pos h']
      rw [E]
      clear E
      go_enter Try.func53, Try.ntmps53
      go_wp2_with (first | (go_at_call 38; have hP := hP; refine (refEmpty_any _ _ _ _ _).mono ?_; rintro e w'2 ⟨rfl, hb2⟩; have hB2 := via hB hb2; have hP2 := hP.below hb2; have hQ2 := hQ.below hb2; have hR2 := hR.below hb2; clear hb2; obtain ⟨p02, p12, p22, p32, pf2⟩ := id hP2; obtain ⟨q02, q12, q22, q32, qf2⟩ := id hQ2; obtain ⟨r02, r12, r22, r32, rf2⟩ := id hR2) | (go_at_call 38; refine (refEmpty_any _ _ _ _ _).mono ?_; rintro e w' ⟨rfl, hb⟩; have hB := via (w := w) (by go_grown) hb; have hz := hB.size; have hP : Has4 w' w.heap.size (.int .i64 a) (.int .i64 b) (.int .i64 c) (.int .i64 d) := (((Has4.new rfl _ _ _ _ _).alloc _).alloc _).below hb; have hQ : Has4 w' (w.heap.size + 1) (.int .i64 p) (.int .i64 q) (.int .i64 r) (.int .i64 s) := ((Has4.new (by simp) _ _ _ _ _).alloc _).below hb; have hR : Has4 w' (w.heap.size + 1 + 1) (.int .i64 0) (.int .i64 0) (.int .i64 0) (.int .i64 0) := (Has4.new (by simp) _ _ _ _ _).below hb; clear hb; obtain ⟨p0, p1, p2, p3, pf⟩ := id hP; obtain ⟨q0, q1, q2, q3, qf⟩ := id hQ; obtain ⟨r0, r1, r2, r3, rf⟩ := id hR))
      obtain ⟨s0, s1, s2, s3⟩ := set4 r02 r12 r22 r32 (.int .i64 a) (.int .i64 b) (.int .i64 c) (.int .i64 d)
      refine bodyPost_ret (v := .agg #[.int .i64 a, .int .i64 b, .int .i64 c, .int .i64 d]) (by simp [results, Try.results53, go_sem, s0, s1, s2, s3]) rfl ⟨rfl, ?_⟩
      go_grown
  · have E : join ⟨a, b, c, d⟩ ⟨p, q, r, s⟩ = orN ⟨p, q, r, s⟩ := by unfold join; rw [if_pos h]
    rw [E]
    clear E
    go_enter Try.func53, Try.ntmps53
    go_wp2_with (first | (go_at_call 66; have hP := hP; refine (some_any _ _ _ _ _).mono ?_; rintro e w'2 ⟨rfl, hb2⟩; have hB2 := via hB hb2; have hP2 := hP.below hb2; have hQ2 := hQ.below hb2; have hR2 := hR.below hb2; clear hb2; obtain ⟨p02, p12, p22, p32, pf2⟩ := id hP2; obtain ⟨q02, q12, q22, q32, qf2⟩ := id hQ2; obtain ⟨r02, r12, r22, r32, rf2⟩ := id hR2) | (go_at_call 38; refine (refEmpty_any _ _ _ _ _).mono ?_; rintro e w' ⟨rfl, hb⟩; have hB := via (w := w) (by go_grown) hb; have hz := hB.size; have hP : Has4 w' w.heap.size (.int .i64 a) (.int .i64 b) (.int .i64 c) (.int .i64 d) := (((Has4.new rfl _ _ _ _ _).alloc _).alloc _).below hb; have hQ : Has4 w' (w.heap.size + 1) (.int .i64 p) (.int .i64 q) (.int .i64 r) (.int .i64 s) := ((Has4.new (by simp) _ _ _ _ _).alloc _).below hb; have hR : Has4 w' (w.heap.size + 1 + 1) (.int .i64 0) (.int .i64 0) (.int .i64 0) (.int .i64 0) := (Has4.new (by simp) _ _ _ _ _).below hb; clear hb; obtain ⟨p0, p1, p2, p3, pf⟩ := id hP; obtain ⟨q0, q1, q2, q3, qf⟩ := id hQ; obtain ⟨r0, r1, r2, r3, rf⟩ := id hR))
    obtain ⟨s0, s1, s2, s3⟩ := set4 r02 r12 r22 r32 (.int .i64 (orN ⟨p, q, r, s⟩).x0) (.int .i64 (orN ⟨p, q, r, s⟩).y0) (.int .i64 (orN ⟨p, q, r, s⟩).x1) (.int .i64 (orN ⟨p, q, r, s⟩).y1)
    refine bodyPost_ret (v := .agg #[.int .i64 (orN ⟨p, q, r, s⟩).x0, .int .i64 (orN ⟨p, q, r, s⟩).y0, .int .i64 (orN ⟨p, q, r, s⟩).x1, .int .i64 (orN ⟨p, q, r, s⟩).y1]) (by simp [results, Try.results53, go_sem, s0, s1, s2, s3]) rfl ⟨rfl, ?_⟩
    go_grown
end Go.Proofs.Ytlakklpnajgjiaa.Rc
