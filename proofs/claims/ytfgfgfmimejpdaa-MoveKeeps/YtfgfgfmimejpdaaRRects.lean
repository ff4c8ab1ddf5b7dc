/- What the functions on rectangles do, as contracts. -/
import Derived.Test.YtfgfgfmimejpdaaRWalks
namespace Go.Proofs.Ytfgfgfmimejpdaa.Rc
open Num Go.RowKit
set_option linter.unusedVariables false
set_option linter.unusedSimpArgs false

theorem via {w W1 w' : World} (h1 : Below w.heap.size w W1) (hb : Below W1.heap.size W1 w') : Below w.heap.size w w' := h1.trans (hb.mono h1.size)
theorem run_min_i64 (w : World) (ts : Array TypeId) (t : TypeId) (a b : Int) : (Builtin.min_ ts t #[.int .i64 a, .int .i64 b]).run Try.prog w = .ok (.int .i64 (mn a b)) w := by
  simp only [Builtin.min_, List.foldlM, Builtin.min2]
  unfold mn
  by_cases c : a < b
  · rw [Int.min_eq_left (by omega)]; simp; omega
  · rw [Int.min_eq_right (by omega)]; simp; omega
theorem run_max_i64 (w : World) (ts : Array TypeId) (t : TypeId) (a b : Int) : (Builtin.max_ ts t #[.int .i64 a, .int .i64 b]).run Try.prog w = .ok (.int .i64 (mx a b)) w := by
  simp only [Builtin.max_, List.foldlM, Builtin.max2]
  unfold mx
  by_cases c : a < b
  · rw [Int.max_eq_right (by omega)]; simp; omega
  · rw [Int.max_eq_left (by omega)]; simp; omega
attribute [local go_sem ↓] run_min_i64 run_max_i64
theorem set4 {w' : World} {k : Nat} {p0 p1 p2 p3 : Value} (h0 : w'.cell? ⟨k, 0, none⟩ = some p0) (h1 : w'.cell? ⟨k, 1, none⟩ = some p1) (h2 : w'.cell? ⟨k, 2, none⟩ = some p2) (h3 : w'.cell? ⟨k, 3, none⟩ = some p3) (v0 v1 v2 v3 : Value) :
    ((((w'.setCell ⟨k, 0, none⟩ v0).setCell ⟨k, 1, none⟩ v1).setCell ⟨k, 2, none⟩ v2).setCell ⟨k, 3, none⟩ v3).cell? ⟨k, 0, none⟩ = some v0 ∧
    ((((w'.setCell ⟨k, 0, none⟩ v0).setCell ⟨k, 1, none⟩ v1).setCell ⟨k, 2, none⟩ v2).setCell ⟨k, 3, none⟩ v3).cell? ⟨k, 1, none⟩ = some v1 ∧
    ((((w'.setCell ⟨k, 0, none⟩ v0).setCell ⟨k, 1, none⟩ v1).setCell ⟨k, 2, none⟩ v2).setCell ⟨k, 3, none⟩ v3).cell? ⟨k, 2, none⟩ = some v2 ∧
    ((((w'.setCell ⟨k, 0, none⟩ v0).setCell ⟨k, 1, none⟩ v1).setCell ⟨k, 2, none⟩ v2).setCell ⟨k, 3, none⟩ v3).cell? ⟨k, 3, none⟩ = some v3 := by
  have g1 : (w'.setCell ⟨k, 0, none⟩ v0).cell? ⟨k, 1, none⟩ = some p1 := by rw [World.cell?_setCell_other _ _ _ _ (by simp)]; exact h1
  have g2 : ((w'.setCell ⟨k, 0, none⟩ v0).setCell ⟨k, 1, none⟩ v1).cell? ⟨k, 2, none⟩ = some p2 := by rw [World.cell?_setCell_other _ _ _ _ (by simp), World.cell?_setCell_other _ _ _ _ (by simp)]; exact h2
  have g3 : (((w'.setCell ⟨k, 0, none⟩ v0).setCell ⟨k, 1, none⟩ v1).setCell ⟨k, 2, none⟩ v2).cell? ⟨k, 3, none⟩ = some p3 := by rw [World.cell?_setCell_other _ _ _ _ (by simp), World.cell?_setCell_other _ _ _ _ (by simp), World.cell?_setCell_other _ _ _ _ (by simp)]; exact h3
  refine ⟨?_, ?_, ?_, World.cell?_setCell_same _ _ _ g3⟩
  · rw [World.cell?_setCell_other _ _ _ _ (by simp), World.cell?_setCell_other _ _ _ _ (by simp), World.cell?_setCell_other _ _ _ _ (by simp)]; exact World.cell?_setCell_same _ _ _ h0
  · rw [World.cell?_setCell_other _ _ _ _ (by simp), World.cell?_setCell_other _ _ _ _ (by simp)]; exact World.cell?_setCell_same _ _ _ g1
  · rw [World.cell?_setCell_other _ _ _ _ (by simp)]; exact World.cell?_setCell_same _ _ _ g2

theorem orNone_any (a b c d : Int) (w : World) :
    Calls Try.prog 68 #[.agg #[.int .i64 a, .int .i64 b, .int .i64 c, .int .i64 d]] w fun e w' => e = .returned (.agg #[.int .i64 (orN ⟨a, b, c, d⟩).x0, .int .i64 (orN ⟨a, b, c, d⟩).y0, .int .i64 (orN ⟨a, b, c, d⟩).x1, .int .i64 (orN ⟨a, b, c, d⟩).y1]) ∧ Below w.heap.size w w' := by
  rcases h : empB ⟨a, b, c, d⟩ with _ | _
  · rw [orN_no h]
    go_enter Try.func68, Try.ntmps68
    go_wp2_with (go_at_call 37; refine (empty_any _ _ _ _ _).mono ?_; rintro e w' ⟨rfl, hb⟩; have hB := via (w := w) (by go_grown) hb; obtain ⟨hc, hf⟩ := bcell hb; have hz0 : w.heap.size < w'.heap.size := (by have := hb.size; simp at this; omega); have hz1 : w.heap.size + 1 < w'.heap.size := (by have := hb.size; simp at this; omega))
    have k0 : w'.cell? ⟨w.heap.size + 1, 0, none⟩ = some (.int .i64 0) := by rw [hc _ _ (by go_size)]; simp [go_sem, World.cell?_alloc_past]
    have k1 : w'.cell? ⟨w.heap.size + 1, 1, none⟩ = some (.int .i64 0) := by rw [hc _ _ (by go_size)]; simp [go_sem, World.cell?_alloc_past]
    have k2 : w'.cell? ⟨w.heap.size + 1, 2, none⟩ = some (.int .i64 0) := by rw [hc _ _ (by go_size)]; simp [go_sem, World.cell?_alloc_past]
    have k3 : w'.cell? ⟨w.heap.size + 1, 3, none⟩ = some (.int .i64 0) := by rw [hc _ _ (by go_size)]; simp [go_sem, World.cell?_alloc_past]
    obtain ⟨s0, s1, s2, s3⟩ := set4 k0 k1 k2 k3 (.int .i64 a) (.int .i64 b) (.int .i64 c) (.int .i64 d)
    refine bodyPost_ret (v := .agg #[.int .i64 a, .int .i64 b, .int .i64 c, .int .i64 d]) (by simp [results, Try.results68, go_sem, s0, s1, s2, s3]) rfl ⟨rfl, ?_⟩
    go_grown
  · rw [orN_yes h]
    go_enter Try.func68, Try.ntmps68
    go_wp2_with (go_at_call 37; refine (empty_any _ _ _ _ _).mono ?_; rintro e w' ⟨rfl, hb⟩; have hB := via (w := w) (by go_grown) hb; obtain ⟨hc, hf⟩ := bcell hb; have hz0 : w.heap.size < w'.heap.size := (by have := hb.size; simp at this; omega); have hz1 : w.heap.size + 1 < w'.heap.size := (by have := hb.size; simp at this; omega))
    have k0 : w'.cell? ⟨w.heap.size + 1, 0, none⟩ = some (.int .i64 0) := by rw [hc _ _ (by go_size)]; simp [go_sem, World.cell?_alloc_past]
    have k1 : w'.cell? ⟨w.heap.size + 1, 1, none⟩ = some (.int .i64 0) := by rw [hc _ _ (by go_size)]; simp [go_sem, World.cell?_alloc_past]
    have k2 : w'.cell? ⟨w.heap.size + 1, 2, none⟩ = some (.int .i64 0) := by rw [hc _ _ (by go_size)]; simp [go_sem, World.cell?_alloc_past]
    have k3 : w'.cell? ⟨w.heap.size + 1, 3, none⟩ = some (.int .i64 0) := by rw [hc _ _ (by go_size)]; simp [go_sem, World.cell?_alloc_past]
    obtain ⟨s0, s1, s2, s3⟩ := set4 k0 k1 k2 k3 (.int .i64 0) (.int .i64 0) (.int .i64 0) (.int .i64 0)
    refine bodyPost_ret (v := .agg #[.int .i64 0, .int .i64 0, .int .i64 0, .int .i64 0]) (by simp [results, Try.results68, go_sem, s0, s1, s2, s3]) rfl ⟨rfl, ?_⟩
    go_grown

theorem some_any (a b c d : Int) (w : World) :
    Calls Try.prog 71 #[.int .i64 a, .int .i64 b, .int .i64 c, .int .i64 d] w fun e w' => e = .returned (.agg #[.int .i64 (orN ⟨a, b, c, d⟩).x0, .int .i64 (orN ⟨a, b, c, d⟩).y0, .int .i64 (orN ⟨a, b, c, d⟩).x1, .int .i64 (orN ⟨a, b, c, d⟩).y1]) ∧ Below w.heap.size w w' := by
  rcases h : empB ⟨a, b, c, d⟩ with _ | _
  · rw [orN_no h]
    go_enter Try.func71, Try.ntmps71
    go_wp2_with (go_at_call 15; refine (refEmpty_any _ _ _ _ _).mono ?_; rintro e w' ⟨rfl, hb⟩; have hB := via (w := w) (by go_grown) hb; obtain ⟨hc, hf⟩ := bcell hb; have hz0 : w.heap.size < w'.heap.size := (by have := hb.size; simp at this; omega); have hz1 : w.heap.size + 1 < w'.heap.size := (by have := hb.size; simp at this; omega))
    have k0 : w'.cell? ⟨w.heap.size, 0, none⟩ = some (.int .i64 0) := by rw [hc _ _ (by go_size)]; simp [go_sem, World.cell?_alloc_past]
    have k1 : w'.cell? ⟨w.heap.size, 1, none⟩ = some (.int .i64 0) := by rw [hc _ _ (by go_size)]; simp [go_sem, World.cell?_alloc_past]
    have k2 : w'.cell? ⟨w.heap.size, 2, none⟩ = some (.int .i64 0) := by rw [hc _ _ (by go_size)]; simp [go_sem, World.cell?_alloc_past]
    have k3 : w'.cell? ⟨w.heap.size, 3, none⟩ = some (.int .i64 0) := by rw [hc _ _ (by go_size)]; simp [go_sem, World.cell?_alloc_past]
    obtain ⟨s0, s1, s2, s3⟩ := set4 k0 k1 k2 k3 (.int .i64 a) (.int .i64 b) (.int .i64 c) (.int .i64 d)
    refine bodyPost_ret (v := .agg #[.int .i64 a, .int .i64 b, .int .i64 c, .int .i64 d]) (by simp [results, Try.results71, go_sem, s0, s1, s2, s3]) rfl ⟨rfl, ?_⟩
    go_grown
  · rw [orN_yes h]
    go_enter Try.func71, Try.ntmps71
    go_wp2_with (go_at_call 15; refine (refEmpty_any _ _ _ _ _).mono ?_; rintro e w' ⟨rfl, hb⟩; have hB := via (w := w) (by go_grown) hb; obtain ⟨hc, hf⟩ := bcell hb; have hz0 : w.heap.size < w'.heap.size := (by have := hb.size; simp at this; omega); have hz1 : w.heap.size + 1 < w'.heap.size := (by have := hb.size; simp at this; omega))
    have k0 : w'.cell? ⟨w.heap.size, 0, none⟩ = some (.int .i64 0) := by rw [hc _ _ (by go_size)]; simp [go_sem, World.cell?_alloc_past]
    have k1 : w'.cell? ⟨w.heap.size, 1, none⟩ = some (.int .i64 0) := by rw [hc _ _ (by go_size)]; simp [go_sem, World.cell?_alloc_past]
    have k2 : w'.cell? ⟨w.heap.size, 2, none⟩ = some (.int .i64 0) := by rw [hc _ _ (by go_size)]; simp [go_sem, World.cell?_alloc_past]
    have k3 : w'.cell? ⟨w.heap.size, 3, none⟩ = some (.int .i64 0) := by rw [hc _ _ (by go_size)]; simp [go_sem, World.cell?_alloc_past]
    obtain ⟨s0, s1, s2, s3⟩ := set4 k0 k1 k2 k3 (.int .i64 0) (.int .i64 0) (.int .i64 0) (.int .i64 0)
    refine bodyPost_ret (v := .agg #[.int .i64 0, .int .i64 0, .int .i64 0, .int .i64 0]) (by simp [results, Try.results71, go_sem, s0, s1, s2, s3]) rfl ⟨rfl, ?_⟩
    go_grown

theorem meet_any (a b c d p q r s : Int) (w : World) :
    Calls Try.prog 42 #[.agg #[.int .i64 a, .int .i64 b, .int .i64 c, .int .i64 d], .agg #[.int .i64 p, .int .i64 q, .int .i64 r, .int .i64 s]] w fun e w' => e = .returned (.agg #[.int .i64 (meet ⟨a, b, c, d⟩ ⟨p, q, r, s⟩).x0, .int .i64 (meet ⟨a, b, c, d⟩ ⟨p, q, r, s⟩).y0, .int .i64 (meet ⟨a, b, c, d⟩ ⟨p, q, r, s⟩).x1, .int .i64 (meet ⟨a, b, c, d⟩ ⟨p, q, r, s⟩).y1]) ∧ Below w.heap.size w w' := by
  have E : orN ⟨mx a p, mx b q, mn c r, mn d s⟩ = meet ⟨a, b, c, d⟩ ⟨p, q, r, s⟩ := rfl
  go_enter Try.func42, Try.ntmps42
  go_wp2_with (go_at_call 68; refine (orNone_any _ _ _ _ _).mono ?_; rintro e w' ⟨rfl, hb⟩; have hB := via (w := w) (by go_grown) hb; obtain ⟨hc, hf⟩ := bcell hb; have hz0 : w.heap.size < w'.heap.size := (by have := hb.size; simp at this; omega); have hz1 : w.heap.size + 1 < w'.heap.size := (by have := hb.size; simp at this; omega); have hz2 : w.heap.size + 1 + 1 < w'.heap.size := (by have := hb.size; simp at this; omega))
  have k0 : w'.cell? ⟨w.heap.size + 1 + 1, 0, none⟩ = some (.int .i64 0) := by rw [hc _ _ (by go_size)]; simp [go_sem, World.cell?_alloc_past]
  have k1 : w'.cell? ⟨w.heap.size + 1 + 1, 1, none⟩ = some (.int .i64 0) := by rw [hc _ _ (by go_size)]; simp [go_sem, World.cell?_alloc_past]
  have k2 : w'.cell? ⟨w.heap.size + 1 + 1, 2, none⟩ = some (.int .i64 0) := by rw [hc _ _ (by go_size)]; simp [go_sem, World.cell?_alloc_past]
  have k3 : w'.cell? ⟨w.heap.size + 1 + 1, 3, none⟩ = some (.int .i64 0) := by rw [hc _ _ (by go_size)]; simp [go_sem, World.cell?_alloc_past]
  obtain ⟨s0, s1, s2, s3⟩ := set4 k0 k1 k2 k3 (.int .i64 (meet ⟨a, b, c, d⟩ ⟨p, q, r, s⟩).x0) (.int .i64 (meet ⟨a, b, c, d⟩ ⟨p, q, r, s⟩).y0) (.int .i64 (meet ⟨a, b, c, d⟩ ⟨p, q, r, s⟩).x1) (.int .i64 (meet ⟨a, b, c, d⟩ ⟨p, q, r, s⟩).y1)
  refine bodyPost_ret (v := .agg #[.int .i64 (meet ⟨a, b, c, d⟩ ⟨p, q, r, s⟩).x0, .int .i64 (meet ⟨a, b, c, d⟩ ⟨p, q, r, s⟩).y0, .int .i64 (meet ⟨a, b, c, d⟩ ⟨p, q, r, s⟩).x1, .int .i64 (meet ⟨a, b, c, d⟩ ⟨p, q, r, s⟩).y1]) (by simp [results, Try.results42, go_sem, s0, s1, s2, s3]) rfl ⟨rfl, ?_⟩
  go_grown

end Go.Proofs.Ytfgfgfmimejpdaa.Rc
