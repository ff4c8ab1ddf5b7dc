import Derived.Test.YtamojciiacmjaaaDoorChecked
import Derived.Test.YtamojciiacmjaaaDoorRgPlain
import Derived.WalkKit
import Derived.WalkLawsBesides
import Derived.Outline
import Derived.Handy
import Derived.Deep.RegionHeld3
/- What the small functions do, as contracts: numbers alone. -/
namespace Go.Proofs.YtamojciiacmjaaaDoor.Rg.Rc
open Num Go.RowKit
set_option linter.unusedVariables false

theorem ret_int {k : IntKind} {a b : Int} (h : a = b) : Ending.returned (.int k a) = .returned (.int k b) := by rw [h]
theorem ret_bool {a b : Bool} (h : a = b) : Ending.returned (.bool a) = .returned (.bool b) := by rw [h]

theorem near_any (n : Int) (w : World) : Calls Tryd.prog 25 #[.int .i64 n] w fun e w' => e = .returned (.bool (nearB n)) ∧ w' = w := by
  go_enter Tryd.func25, Tryd.ntmps25
  go_wp2
  all_goals
    go_ret
    refine ⟨ret_bool ?_, rfl⟩
    unfold nearB
    rw [Bool.eq_iff_iff]
    simp
    omega

theorem less_any (a b : Int) (w : World) : Calls Tryd.prog 42 #[.int .i64 a, .int .i64 b] w fun e w' => e = .returned (.int .i64 (mn a b)) ∧ w' = w := by
  go_enter Tryd.func42, Tryd.ntmps42
  go_wp2
  all_goals
    go_ret
    exact ⟨ret_int (by unfold mn; omega), rfl⟩
theorem more_any (a b : Int) (w : World) : Calls Tryd.prog 43 #[.int .i64 a, .int .i64 b] w fun e w' => e = .returned (.int .i64 (mx a b)) ∧ w' = w := by
  go_enter Tryd.func43, Tryd.ntmps43
  go_wp2
  all_goals
    go_ret
    exact ⟨ret_int (by unfold mx; omega), rfl⟩
theorem refCut_any (n : Int) (w : World) : Calls Tryd.prog 56 #[.int .i64 n] w fun e w' => e = .returned (.int .i64 (cutN n)) ∧ w' = w := by
  go_enter Tryd.func56, Tryd.ntmps56
  go_wp2_with (first | (go_at_call 42; refine (less_any _ _ _).mono ?_; rintro e w' ⟨rfl, rfl⟩) | (go_at_call 43; refine (more_any _ _ _).mono ?_; rintro e w' ⟨rfl, rfl⟩))
  go_ret
  exact ⟨rfl, rfl⟩
theorem moved_any (n d : Int) (w : World) (hn : -4398046511104 ≤ n ∧ n ≤ 4398046511104) (hd : -4398046511104 ≤ d ∧ d ≤ 4398046511104) :
    Calls Tryd.prog 67 #[.int .i64 n, .int .i64 d] w fun e w' => e = .returned (.int .i64 (mvd n d)) ∧ w' = w := by
  obtain ⟨n0, n1⟩ := hn
  obtain ⟨d0, d1⟩ := hd
  go_enter Tryd.func67, Tryd.ntmps67
  go_wp2
  all_goals
    go_ret
    refine ⟨ret_int ?_, rfl⟩
    unfold mvd
    first | rw [if_pos (by omega)] | rw [if_neg (by omega)]
theorem edge_any (n d : Int) (w : World) (hn : -4398046511104 ≤ n ∧ n ≤ 4398046511104) (hd : -4398046511104 ≤ d ∧ d ≤ 4398046511104) :
    Calls Tryd.prog 55 #[.int .i64 n, .int .i64 d] w fun e w' => e = .returned (.int .i64 (cutN (mvd n d))) ∧ w' = w := by
  have H : Hid (edge n d = cutN (mvd n d)) := edge_cut hn
  obtain ⟨n0, n1⟩ := hn
  obtain ⟨d0, d1⟩ := hd
  by_cases h : n = 4398046511104
  · subst h
    go_enter Tryd.func55, Tryd.ntmps55
    go_wp2
    go_ret
    exact ⟨ret_int (by rw [← H.out]; rfl), rfl⟩
  by_cases h' : n = -4398046511104
  · subst h'
    go_enter Tryd.func55, Tryd.ntmps55
    go_wp2
    go_ret
    exact ⟨ret_int (by rw [← H.out]; rfl), rfl⟩
  · have g : (n == 4398046511104) = false := by simpa using h
    have g' : (n == -4398046511104) = false := by simpa using h'
    go_enter Tryd.func55, Tryd.ntmps55
    go_wp2_with (go_at_call 56; refine (refCut_any _ _).mono ?_; rintro e w' ⟨rfl, rfl⟩)
    go_ret
    exact ⟨ret_int (by rw [← H.out]; unfold edge; rw [if_neg (by omega)]), rfl⟩

/-- what was there reads as it did -/
theorem bcell {W w1 : World} (hb : Below W.heap.size W w1) : (∀ b o, b < W.heap.size → w1.cell? ⟨b, o, none⟩ = W.cell? ⟨b, o, none⟩) ∧ (∀ b o, b < W.heap.size → w1.frozen? ⟨b, o, none⟩ = W.frozen? ⟨b, o, none⟩) :=
  ⟨fun b o h => hb.cell (p := ⟨b, o, none⟩) h, fun b o h => hb.frozen (p := ⟨b, o, none⟩) h⟩

theorem empty_any (a b c d : Int) (w : World) :
    Calls Tryd.prog 47 #[.agg #[.int .i64 a, .int .i64 b, .int .i64 c, .int .i64 d]] w fun e w' => e = .returned (.bool (empB ⟨a, b, c, d⟩)) ∧ Below w.heap.size w w' := by
  go_enter Tryd.func47, Tryd.ntmps47
  go_wp2
  all_goals
    go_ret
    refine ⟨ret_bool ?_, (Below.refl _ _).alloc (Nat.le_refl _) _⟩
    unfold empB
    rw [Bool.eq_iff_iff]
    simp
    try omega
theorem refEmpty_any (a b c d : Int) (w : World) :
    Calls Tryd.prog 27 #[.agg #[.int .i64 a, .int .i64 b, .int .i64 c, .int .i64 d]] w fun e w' => e = .returned (.bool (empB ⟨a, b, c, d⟩)) ∧ Below w.heap.size w w' := by
  go_enter Tryd.func27, Tryd.ntmps27
  go_wp2
  all_goals
    go_ret
    refine ⟨ret_bool ?_, (Below.refl _ _).alloc (Nat.le_refl _) _⟩
    unfold empB
    rw [Bool.eq_iff_iff]
    simp
    omega
theorem has_any (a b c d x y : Int) (w : World) :
    Calls Tryd.prog 40 #[.agg #[.int .i64 a, .int .i64 b, .int .i64 c, .int .i64 d], .int .i64 x, .int .i64 y] w fun e w' => e = .returned (.bool (hasB ⟨a, b, c, d⟩ x y)) ∧ Below w.heap.size w w' := by
  go_enter Tryd.func40, Tryd.ntmps40
  go_wp2
  all_goals
    go_ret
    refine ⟨ret_bool ?_, (Below.refl _ _).alloc (Nat.le_refl _) _⟩
    unfold hasB
    rw [Bool.eq_iff_iff]
    simp
    omega
theorem right_any (a b c d : Int) (w : World) :
    Calls Tryd.prog 10 #[.agg #[.int .i64 a, .int .i64 b, .int .i64 c, .int .i64 d]] w fun e w' => e = .returned (.bool (rightB ⟨a, b, c, d⟩)) ∧ Below w.heap.size w w' := by
  go_enter Tryd.func10, Tryd.ntmps10
  go_wp2_with (go_at_call 25; refine (near_any _ _).mono ?_; rintro e w' ⟨rfl, rfl⟩)
  all_goals
    go_ret
    refine ⟨ret_bool ?_, (Below.refl _ _).alloc (Nat.le_refl _) _⟩
    unfold rightB
    rw [Bool.eq_iff_iff]
    simp_all
end Go.Proofs.YtamojciiacmjaaaDoor.Rg.Rc
/- What the functions on rectangles do, as contracts. -/
namespace Go.Proofs.YtamojciiacmjaaaDoor.Rg.Rc
open Num Go.RowKit
set_option linter.unusedVariables false
set_option linter.unusedSimpArgs false

theorem via {w W1 w' : World} (h1 : Below w.heap.size w W1) (hb : Below W1.heap.size W1 w') : Below w.heap.size w w' := h1.trans (hb.mono h1.size)
theorem run_min_i64 (w : World) (ts : Array TypeId) (t : TypeId) (a b : Int) : (Builtin.min_ ts t #[.int .i64 a, .int .i64 b]).run Tryd.prog w = .ok (.int .i64 (mn a b)) w := by
  simp only [Builtin.min_, List.foldlM, Builtin.min2]
  unfold mn
  by_cases c : a < b
  · rw [Int.min_eq_left (by omega)]; simp; omega
  · rw [Int.min_eq_right (by omega)]; simp; omega
theorem run_max_i64 (w : World) (ts : Array TypeId) (t : TypeId) (a b : Int) : (Builtin.max_ ts t #[.int .i64 a, .int .i64 b]).run Tryd.prog w = .ok (.int .i64 (mx a b)) w := by
  simp only [Builtin.max_, List.foldlM, Builtin.max2]
  unfold mx
  by_cases c : a < b
  · rw [Int.max_eq_right (by omega)]; simp; omega
  · rw [Int.max_eq_left (by omega)]; simp; omega
attribute [local go_sem ↓] run_min_i64 run_max_i64
theorem set4 {w' : World} {k : Nat} {p0 p1 p2 p3 : Value} (h0 : w'.cell? ⟨k, 0, none⟩ = some p0) (h1 : w'.cell? ⟨k, 1, none⟩ = some p1) (h2 : w'.cell? ⟨k, 2, none⟩ = some p2) (h3 : w'.cell? ⟨k, 3, none⟩ = some p3) (v0 v1 v2 v3 : Value) :
    ((((w'.setCell ⟨k, 0, none⟩ v0).setCell ⟨k, 1, none⟩ v1).setCell ⟨k, 2, none⟩ v2).setCell ⟨k, 3, none⟩ v3).cell? ⟨k, 0, none⟩ = some v0 ∧
    ((((w'.setCell ⟨k, 0, none⟩ v0).setCell ⟨k, 1, none⟩ v1).setCell ⟨k, 2, none⟩ v2).setCell ⟨k, 3, none⟩ v3).cell? ⟨k, 1, none⟩ = some v1 ∧
    ((((w'.setCell ⟨k, 0, none⟩ v0).setCell ⟨k, 1, none⟩ v1).setCell ⟨k, 2, none⟩ v2).setCell ⟨k, 3, none⟩ v3).cell? ⟨k, 2, none⟩ = some v2 ∧
    ((((w'.setCell ⟨k, 0, none⟩ v0).setCell ⟨k, 1, none⟩ v1).setCell ⟨k, 2, none⟩ v2).setCell ⟨k, 3, none⟩ v3).cell? ⟨k, 3, none⟩ = some v3 := by
  have g1 : (w'.setCell ⟨k, 0, none⟩ v0).cell? ⟨k, 1, none⟩ = some p1 := by rw [World.cell?_setCell_other _ _ _ _ (by simp)]; exact h1
  have g2 : ((w'.setCell ⟨k, 0, none⟩ v0).setCell ⟨k, 1, none⟩ v1).cell? ⟨k, 2, none⟩ = some p2 := by rw [World.cell?_setCell_other _ _ _ _ (by simp), World.cell?_setCell_other _ _ _ _ (by simp)]; exact h2
  have g3 : (((w'.setCell ⟨k, 0, none⟩ v0).setCell ⟨k, 1, none⟩ v1).setCell ⟨k, 2, none⟩ v2).cell? ⟨k, 3, none⟩ = some p3 := by rw [World.cell?_setCell_other _ _ _ _ (by simp), World.cell?_setCell_other _ _ _ _ (by simp), World.cell?_setCell_other _ _ _ _ (by simp)]; exact h3
  refine ⟨?_, ?_, ?_, World.cell?_setCell_same _ _ _ g3⟩
  · rw [World.cell?_setCell_other _ _ _ _ (by simp), World.cell?_setCell_other _ _ _ _ (by simp), World.cell?_setCell_other _ _ _ _ (by simp)]; exact World.cell?_setCell_same _ _ _ h0
  · rw [World.cell?_setCell_other _ _ _ _ (by simp), World.cell?_setCell_other _ _ _ _ (by simp)]; exact World.cell?_setCell_same _ _ _ g1
  · rw [World.cell?_setCell_other _ _ _ _ (by simp)]; exact World.cell?_setCell_same _ _ _ g2

theorem orNone_any (a b c d : Int) (w : World) :
    Calls Tryd.prog 69 #[.agg #[.int .i64 a, .int .i64 b, .int .i64 c, .int .i64 d]] w fun e w' => e = .returned (.agg #[.int .i64 (orN ⟨a, b, c, d⟩).x0, .int .i64 (orN ⟨a, b, c, d⟩).y0, .int .i64 (orN ⟨a, b, c, d⟩).x1, .int .i64 (orN ⟨a, b, c, d⟩).y1]) ∧ Below w.heap.size w w' := by
  rcases h : empB ⟨a, b, c, d⟩ with _ | _
  · rw [orN_no h]
    go_enter Tryd.func69, Tryd.ntmps69
    go_wp2_with (go_at_call 47; refine (empty_any _ _ _ _ _).mono ?_; rintro e w' ⟨rfl, hb⟩; have hB := via (w := w) (by go_grown) hb; obtain ⟨hc, hf⟩ := bcell hb; have hz0 : w.heap.size < w'.heap.size := (by have := hb.size; simp at this; omega); have hz1 : w.heap.size + 1 < w'.heap.size := (by have := hb.size; simp at this; omega))
    have k0 : w'.cell? ⟨w.heap.size + 1, 0, none⟩ = some (.int .i64 0) := by rw [hc _ _ (by go_size)]; simp [go_sem, World.cell?_alloc_past]
    have k1 : w'.cell? ⟨w.heap.size + 1, 1, none⟩ = some (.int .i64 0) := by rw [hc _ _ (by go_size)]; simp [go_sem, World.cell?_alloc_past]
    have k2 : w'.cell? ⟨w.heap.size + 1, 2, none⟩ = some (.int .i64 0) := by rw [hc _ _ (by go_size)]; simp [go_sem, World.cell?_alloc_past]
    have k3 : w'.cell? ⟨w.heap.size + 1, 3, none⟩ = some (.int .i64 0) := by rw [hc _ _ (by go_size)]; simp [go_sem, World.cell?_alloc_past]
    obtain ⟨s0, s1, s2, s3⟩ := set4 k0 k1 k2 k3 (.int .i64 a) (.int .i64 b) (.int .i64 c) (.int .i64 d)
    refine bodyPost_ret (v := .agg #[.int .i64 a, .int .i64 b, .int .i64 c, .int .i64 d]) (by simp [results, Tryd.results69, go_sem, s0, s1, s2, s3]) rfl ⟨rfl, ?_⟩
    go_grown
  · rw [orN_yes h]
    go_enter Tryd.func69, Tryd.ntmps69
    go_wp2_with (go_at_call 47; refine (empty_any _ _ _ _ _).mono ?_; rintro e w' ⟨rfl, hb⟩; have hB := via (w := w) (by go_grown) hb; obtain ⟨hc, hf⟩ := bcell hb; have hz0 : w.heap.size < w'.heap.size := (by have := hb.size; simp at this; omega); have hz1 : w.heap.size + 1 < w'.heap.size := (by have := hb.size; simp at this; omega))
    have k0 : w'.cell? ⟨w.heap.size + 1, 0, none⟩ = some (.int .i64 0) := by rw [hc _ _ (by go_size)]; simp [go_sem, World.cell?_alloc_past]
    have k1 : w'.cell? ⟨w.heap.size + 1, 1, none⟩ = some (.int .i64 0) := by rw [hc _ _ (by go_size)]; simp [go_sem, World.cell?_alloc_past]
    have k2 : w'.cell? ⟨w.heap.size + 1, 2, none⟩ = some (.int .i64 0) := by rw [hc _ _ (by go_size)]; simp [go_sem, World.cell?_alloc_past]
    have k3 : w'.cell? ⟨w.heap.size + 1, 3, none⟩ = some (.int .i64 0) := by rw [hc _ _ (by go_size)]; simp [go_sem, World.cell?_alloc_past]
    obtain ⟨s0, s1, s2, s3⟩ := set4 k0 k1 k2 k3 (.int .i64 0) (.int .i64 0) (.int .i64 0) (.int .i64 0)
    refine bodyPost_ret (v := .agg #[.int .i64 0, .int .i64 0, .int .i64 0, .int .i64 0]) (by simp [results, Tryd.results69, go_sem, s0, s1, s2, s3]) rfl ⟨rfl, ?_⟩
    go_grown

theorem some_any (a b c d : Int) (w : World) :
    Calls Tryd.prog 41 #[.int .i64 a, .int .i64 b, .int .i64 c, .int .i64 d] w fun e w' => e = .returned (.agg #[.int .i64 (orN ⟨a, b, c, d⟩).x0, .int .i64 (orN ⟨a, b, c, d⟩).y0, .int .i64 (orN ⟨a, b, c, d⟩).x1, .int .i64 (orN ⟨a, b, c, d⟩).y1]) ∧ Below w.heap.size w w' := by
  rcases h : empB ⟨a, b, c, d⟩ with _ | _
  · rw [orN_no h]
    go_enter Tryd.func41, Tryd.ntmps41
    go_wp2_with (go_at_call 27; refine (refEmpty_any _ _ _ _ _).mono ?_; rintro e w' ⟨rfl, hb⟩; have hB := via (w := w) (by go_grown) hb; obtain ⟨hc, hf⟩ := bcell hb; have hz0 : w.heap.size < w'.heap.size := (by have := hb.size; simp at this; omega); have hz1 : w.heap.size + 1 < w'.heap.size := (by have := hb.size; simp at this; omega))
    have k0 : w'.cell? ⟨w.heap.size, 0, none⟩ = some (.int .i64 0) := by rw [hc _ _ (by go_size)]; simp [go_sem, World.cell?_alloc_past]
    have k1 : w'.cell? ⟨w.heap.size, 1, none⟩ = some (.int .i64 0) := by rw [hc _ _ (by go_size)]; simp [go_sem, World.cell?_alloc_past]
    have k2 : w'.cell? ⟨w.heap.size, 2, none⟩ = some (.int .i64 0) := by rw [hc _ _ (by go_size)]; simp [go_sem, World.cell?_alloc_past]
    have k3 : w'.cell? ⟨w.heap.size, 3, none⟩ = some (.int .i64 0) := by rw [hc _ _ (by go_size)]; simp [go_sem, World.cell?_alloc_past]
    obtain ⟨s0, s1, s2, s3⟩ := set4 k0 k1 k2 k3 (.int .i64 a) (.int .i64 b) (.int .i64 c) (.int .i64 d)
    refine bodyPost_ret (v := .agg #[.int .i64 a, .int .i64 b, .int .i64 c, .int .i64 d]) (by simp [results, Tryd.results41, go_sem, s0, s1, s2, s3]) rfl ⟨rfl, ?_⟩
    go_grown
  · rw [orN_yes h]
    go_enter Tryd.func41, Tryd.ntmps41
    go_wp2_with (go_at_call 27; refine (refEmpty_any _ _ _ _ _).mono ?_; rintro e w' ⟨rfl, hb⟩; have hB := via (w := w) (by go_grown) hb; obtain ⟨hc, hf⟩ := bcell hb; have hz0 : w.heap.size < w'.heap.size := (by have := hb.size; simp at this; omega); have hz1 : w.heap.size + 1 < w'.heap.size := (by have := hb.size; simp at this; omega))
    have k0 : w'.cell? ⟨w.heap.size, 0, none⟩ = some (.int .i64 0) := by rw [hc _ _ (by go_size)]; simp [go_sem, World.cell?_alloc_past]
    have k1 : w'.cell? ⟨w.heap.size, 1, none⟩ = some (.int .i64 0) := by rw [hc _ _ (by go_size)]; simp [go_sem, World.cell?_alloc_past]
    have k2 : w'.cell? ⟨w.heap.size, 2, none⟩ = some (.int .i64 0) := by rw [hc _ _ (by go_size)]; simp [go_sem, World.cell?_alloc_past]
    have k3 : w'.cell? ⟨w.heap.size, 3, none⟩ = some (.int .i64 0) := by rw [hc _ _ (by go_size)]; simp [go_sem, World.cell?_alloc_past]
    obtain ⟨s0, s1, s2, s3⟩ := set4 k0 k1 k2 k3 (.int .i64 0) (.int .i64 0) (.int .i64 0) (.int .i64 0)
    refine bodyPost_ret (v := .agg #[.int .i64 0, .int .i64 0, .int .i64 0, .int .i64 0]) (by simp [results, Tryd.results41, go_sem, s0, s1, s2, s3]) rfl ⟨rfl, ?_⟩
    go_grown

theorem meet_any (a b c d p q r s : Int) (w : World) :
    Calls Tryd.prog 54 #[.agg #[.int .i64 a, .int .i64 b, .int .i64 c, .int .i64 d], .agg #[.int .i64 p, .int .i64 q, .int .i64 r, .int .i64 s]] w fun e w' => e = .returned (.agg #[.int .i64 (meet ⟨a, b, c, d⟩ ⟨p, q, r, s⟩).x0, .int .i64 (meet ⟨a, b, c, d⟩ ⟨p, q, r, s⟩).y0, .int .i64 (meet ⟨a, b, c, d⟩ ⟨p, q, r, s⟩).x1, .int .i64 (meet ⟨a, b, c, d⟩ ⟨p, q, r, s⟩).y1]) ∧ Below w.heap.size w w' := by
  have E : orN ⟨mx a p, mx b q, mn c r, mn d s⟩ = meet ⟨a, b, c, d⟩ ⟨p, q, r, s⟩ := rfl
  go_enter Tryd.func54, Tryd.ntmps54
  go_wp2_with (go_at_call 69; refine (orNone_any _ _ _ _ _).mono ?_; rintro e w' ⟨rfl, hb⟩; have hB := via (w := w) (by go_grown) hb; obtain ⟨hc, hf⟩ := bcell hb; have hz0 : w.heap.size < w'.heap.size := (by have := hb.size; simp at this; omega); have hz1 : w.heap.size + 1 < w'.heap.size := (by have := hb.size; simp at this; omega); have hz2 : w.heap.size + 1 + 1 < w'.heap.size := (by have := hb.size; simp at this; omega))
  have k0 : w'.cell? ⟨w.heap.size + 1 + 1, 0, none⟩ = some (.int .i64 0) := by rw [hc _ _ (by go_size)]; simp [go_sem, World.cell?_alloc_past]
  have k1 : w'.cell? ⟨w.heap.size + 1 + 1, 1, none⟩ = some (.int .i64 0) := by rw [hc _ _ (by go_size)]; simp [go_sem, World.cell?_alloc_past]
  have k2 : w'.cell? ⟨w.heap.size + 1 + 1, 2, none⟩ = some (.int .i64 0) := by rw [hc _ _ (by go_size)]; simp [go_sem, World.cell?_alloc_past]
  have k3 : w'.cell? ⟨w.heap.size + 1 + 1, 3, none⟩ = some (.int .i64 0) := by rw [hc _ _ (by go_size)]; simp [go_sem, World.cell?_alloc_past]
  obtain ⟨s0, s1, s2, s3⟩ := set4 k0 k1 k2 k3 (.int .i64 (meet ⟨a, b, c, d⟩ ⟨p, q, r, s⟩).x0) (.int .i64 (meet ⟨a, b, c, d⟩ ⟨p, q, r, s⟩).y0) (.int .i64 (meet ⟨a, b, c, d⟩ ⟨p, q, r, s⟩).x1) (.int .i64 (meet ⟨a, b, c, d⟩ ⟨p, q, r, s⟩).y1)
  refine bodyPost_ret (v := .agg #[.int .i64 (meet ⟨a, b, c, d⟩ ⟨p, q, r, s⟩).x0, .int .i64 (meet ⟨a, b, c, d⟩ ⟨p, q, r, s⟩).y0, .int .i64 (meet ⟨a, b, c, d⟩ ⟨p, q, r, s⟩).x1, .int .i64 (meet ⟨a, b, c, d⟩ ⟨p, q, r, s⟩).y1]) (by simp [results, Tryd.results54, go_sem, s0, s1, s2, s3]) rfl ⟨rfl, ?_⟩
  go_grown

end Go.Proofs.YtamojciiacmjaaaDoor.Rg.Rc
/- What the functions that join, cut, move and grow rectangles do, as contracts. -/
namespace Go.Proofs.YtamojciiacmjaaaDoor.Rg.Rc
open Num Go.RowKit
set_option linter.unusedVariables false
set_option linter.unusedSimpArgs false
attribute [local go_sem ↓] run_min_i64 run_max_i64

set_option maxHeartbeats 1000000 in
theorem cut_any (g : Nat) (a b c d : Int) (w : World) (h0 : w.cell? ⟨g, 0, none⟩ = some (.int .i64 a)) (h1 : w.cell? ⟨g, 1, none⟩ = some (.int .i64 b)) (h2 : w.cell? ⟨g, 2, none⟩ = some (.int .i64 c)) (h3 : w.cell? ⟨g, 3, none⟩ = some (.int .i64 d)) :
    Calls Tryd.prog 66 #[.slice (some ⟨g, 0, none⟩) 4 4] w fun e w' => e = .returned (.agg #[.int .i64 (cutR a b c d).x0, .int .i64 (cutR a b c d).y0, .int .i64 (cutR a b c d).x1, .int .i64 (cutR a b c d).y1]) ∧ Below w.heap.size w w' := by
  have hg : g < w.heap.size := World.block_lt_of_cell? w ⟨g, 0, none⟩ h0
  have hg1 : g < w.heap.size + 1 := by omega
  have ne : ¬ w.heap.size + 1 = g := by omega
  have ne' : ¬ g = w.heap.size + 1 := by omega
  have E : orN ⟨mx (-4398046511104) (mn a 4398046511104), mx (-4398046511104) (mn b 4398046511104), mx (-4398046511104) (mn c 4398046511104), mx (-4398046511104) (mn d 4398046511104)⟩ = cutR a b c d := rfl
  go_enter Tryd.func66, Tryd.ntmps66
  go_wp2
  refine wp_loop_rounds 5 ?_
  rw [rounds_succ]
  go_wp2
  rw [rounds_succ]
  go_wp2
  rw [rounds_succ]
  go_wp2
  rw [rounds_succ]
  go_wp2
  rw [rounds_succ]
  go_wp2_with (go_at_call 69; refine (orNone_any _ _ _ _ _).mono ?_; rintro e w' ⟨rfl, hb⟩; have hB := via (w := w) (by go_grown) hb; obtain ⟨hc, hf⟩ := bcell hb; have hz0 : w.heap.size < w'.heap.size := (by have := hb.size; simp at this; omega); have hz1 : w.heap.size + 1 < w'.heap.size := (by have := hb.size; simp at this; omega))
  have k0 : w'.cell? ⟨w.heap.size, 0, none⟩ = some (.int .i64 0) := by rw [hc _ _ (by go_size)]; simp [go_sem, World.cell?_alloc_past]
  have k1 : w'.cell? ⟨w.heap.size, 1, none⟩ = some (.int .i64 0) := by rw [hc _ _ (by go_size)]; simp [go_sem, World.cell?_alloc_past]
  have k2 : w'.cell? ⟨w.heap.size, 2, none⟩ = some (.int .i64 0) := by rw [hc _ _ (by go_size)]; simp [go_sem, World.cell?_alloc_past]
  have k3 : w'.cell? ⟨w.heap.size, 3, none⟩ = some (.int .i64 0) := by rw [hc _ _ (by go_size)]; simp [go_sem, World.cell?_alloc_past]
  obtain ⟨s0, s1, s2, s3⟩ := set4 k0 k1 k2 k3 (.int .i64 (cutR a b c d).x0) (.int .i64 (cutR a b c d).y0) (.int .i64 (cutR a b c d).x1) (.int .i64 (cutR a b c d).y1)
  refine bodyPost_ret (v := .agg #[.int .i64 (cutR a b c d).x0, .int .i64 (cutR a b c d).y0, .int .i64 (cutR a b c d).x1, .int .i64 (cutR a b c d).y1]) (by simp [results, Tryd.results66, go_sem, s0, s1, s2, s3]) rfl ⟨rfl, ?_⟩
  go_grown

/-- four cells, one behind the other, which may be written -/
structure Has4 (w : World) (k : Nat) (v0 v1 v2 v3 : Value) : Prop where
  c0 : w.cell? ⟨k, 0, none⟩ = some v0
  c1 : w.cell? ⟨k, 1, none⟩ = some v1
  c2 : w.cell? ⟨k, 2, none⟩ = some v2
  c3 : w.cell? ⟨k, 3, none⟩ = some v3
  fz : ∀ o, w.frozen? ⟨k, o, none⟩ = false
theorem Has4.below {W w' : World} {k : Nat} {v0 v1 v2 v3 : Value} (h : Has4 W k v0 v1 v2 v3) (hb : Below W.heap.size W w') : Has4 w' k v0 v1 v2 v3 := by
  have hk : k < W.heap.size := World.block_lt_of_cell? W ⟨k, 0, none⟩ h.c0
  obtain ⟨hc, hf⟩ := bcell hb
  exact ⟨by rw [hc _ _ hk]; exact h.c0, by rw [hc _ _ hk]; exact h.c1, by rw [hc _ _ hk]; exact h.c2, by rw [hc _ _ hk]; exact h.c3, fun o => by rw [hf _ _ hk]; exact h.fz o⟩
theorem Has4.alloc {W : World} {k : Nat} {v0 v1 v2 v3 : Value} (h : Has4 W k v0 v1 v2 v3) (o : Obj) : Has4 (W.alloc o) k v0 v1 v2 v3 :=
  h.below ((Below.refl _ _).alloc (Nat.le_refl _) _)
theorem Has4.new {W : World} {k : Nat} (hk : k = W.heap.size) (v0 v1 v2 v3 : Value) (t : TypeId) : Has4 (W.alloc (.cells #[v0, v1, v2, v3] t)) k v0 v1 v2 v3 := by
  subst hk
  exact ⟨by simp, by simp, by simp, by simp, fun o => by simp [go_sem]⟩

theorem join_any (a b c d p q r s : Int) (w : World) :
    Calls Tryd.prog 53 #[.agg #[.int .i64 a, .int .i64 b, .int .i64 c, .int .i64 d], .agg #[.int .i64 p, .int .i64 q, .int .i64 r, .int .i64 s]] w fun e w' => e = .returned (.agg #[.int .i64 (join ⟨a, b, c, d⟩ ⟨p, q, r, s⟩).x0, .int .i64 (join ⟨a, b, c, d⟩ ⟨p, q, r, s⟩).y0, .int .i64 (join ⟨a, b, c, d⟩ ⟨p, q, r, s⟩).x1, .int .i64 (join ⟨a, b, c, d⟩ ⟨p, q, r, s⟩).y1]) ∧ Below w.heap.size w w' := by
  rcases h : empB ⟨a, b, c, d⟩ with _ | _
  · rcases h' : empB ⟨p, q, r, s⟩ with _ | _
    · have E : join ⟨a, b, c, d⟩ ⟨p, q, r, s⟩ = ⟨mn a p, mn b q, mx c r, mx d s⟩ := by unfold join; rw [if_neg (by simp [h]), if_neg (by simp [h'])]
      rw [E]
      clear E
      go_enter Tryd.func53, Tryd.ntmps53
      go_wp2_with (first | (go_at_call 47; have hP := hP; refine (empty_any _ _ _ _ _).mono ?_; rintro e w'2 ⟨rfl, hb2⟩; have hB2 := via hB hb2; have hP2 := hP.below hb2; have hQ2 := hQ.below hb2; have hR2 := hR.below hb2; clear hb2; obtain ⟨p02, p12, p22, p32, pf2⟩ := id hP2; obtain ⟨q02, q12, q22, q32, qf2⟩ := id hQ2; obtain ⟨r02, r12, r22, r32, rf2⟩ := id hR2) | (go_at_call 47; refine (empty_any _ _ _ _ _).mono ?_; rintro e w' ⟨rfl, hb⟩; have hB := via (w := w) (by go_grown) hb; have hz := hB.size; have hP : Has4 w' w.heap.size (.int .i64 a) (.int .i64 b) (.int .i64 c) (.int .i64 d) := (((Has4.new rfl _ _ _ _ _).alloc _).alloc _).below hb; have hQ : Has4 w' (w.heap.size + 1) (.int .i64 p) (.int .i64 q) (.int .i64 r) (.int .i64 s) := ((Has4.new (by simp) _ _ _ _ _).alloc _).below hb; have hR : Has4 w' (w.heap.size + 1 + 1) (.int .i64 0) (.int .i64 0) (.int .i64 0) (.int .i64 0) := (Has4.new (by simp) _ _ _ _ _).below hb; clear hb; obtain ⟨p0, p1, p2, p3, pf⟩ := id hP; obtain ⟨q0, q1, q2, q3, qf⟩ := id hQ; obtain ⟨r0, r1, r2, r3, rf⟩ := id hR))
      obtain ⟨s0, s1, s2, s3⟩ := set4 r02 r12 r22 r32 (.int .i64 (mn a p)) (.int .i64 (mn b q)) (.int .i64 (mx c r)) (.int .i64 (mx d s))
      refine bodyPost_ret (v := .agg #[.int .i64 (mn a p), .int .i64 (mn b q), .int .i64 (mx c r), .int .i64 (mx d s)]) (by simp [results, Tryd.results53, go_sem, s0, s1, s2, s3]) rfl ⟨rfl, ?_⟩
      go_grown

    · have E : join ⟨a, b, c, d⟩ ⟨p, q, r, s⟩ = ⟨a, b, c, d⟩ := by unfold join; rw [if_neg (by simp [h]), if_pos h']
      rw [E]
      clear E
      go_enter Tryd.func53, Tryd.ntmps53
      go_wp2_with (first | (go_at_call 47; have hP := hP; refine (empty_any _ _ _ _ _).mono ?_; rintro e w'2 ⟨rfl, hb2⟩; have hB2 := via hB hb2; have hP2 := hP.below hb2; have hQ2 := hQ.below hb2; have hR2 := hR.below hb2; clear hb2; obtain ⟨p02, p12, p22, p32, pf2⟩ := id hP2; obtain ⟨q02, q12, q22, q32, qf2⟩ := id hQ2; obtain ⟨r02, r12, r22, r32, rf2⟩ := id hR2) | (go_at_call 47; refine (empty_any _ _ _ _ _).mono ?_; rintro e w' ⟨rfl, hb⟩; have hB := via (w := w) (by go_grown) hb; have hz := hB.size; have hP : Has4 w' w.heap.size (.int .i64 a) (.int .i64 b) (.int .i64 c) (.int .i64 d) := (((Has4.new rfl _ _ _ _ _).alloc _).alloc _).below hb; have hQ : Has4 w' (w.heap.size + 1) (.int .i64 p) (.int .i64 q) (.int .i64 r) (.int .i64 s) := ((Has4.new (by simp) _ _ _ _ _).alloc _).below hb; have hR : Has4 w' (w.heap.size + 1 + 1) (.int .i64 0) (.int .i64 0) (.int .i64 0) (.int .i64 0) := (Has4.new (by simp) _ _ _ _ _).below hb; clear hb; obtain ⟨p0, p1, p2, p3, pf⟩ := id hP; obtain ⟨q0, q1, q2, q3, qf⟩ := id hQ; obtain ⟨r0, r1, r2, r3, rf⟩ := id hR))
      obtain ⟨s0, s1, s2, s3⟩ := set4 r02 r12 r22 r32 (.int .i64 a) (.int .i64 b) (.int .i64 c) (.int .i64 d)
      refine bodyPost_ret (v := .agg #[.int .i64 a, .int .i64 b, .int .i64 c, .int .i64 d]) (by simp [results, Tryd.results53, go_sem, s0, s1, s2, s3]) rfl ⟨rfl, ?_⟩
      go_grown

  · have E : join ⟨a, b, c, d⟩ ⟨p, q, r, s⟩ = orN ⟨p, q, r, s⟩ := by unfold join; rw [if_pos h]
    rw [E]
    clear E
    go_enter Tryd.func53, Tryd.ntmps53
    go_wp2_with (first | (go_at_call 69; have hP := hP; refine (orNone_any _ _ _ _ _).mono ?_; rintro e w'2 ⟨rfl, hb2⟩; have hB2 := via hB hb2; have hP2 := hP.below hb2; have hQ2 := hQ.below hb2; have hR2 := hR.below hb2; clear hb2; obtain ⟨p02, p12, p22, p32, pf2⟩ := id hP2; obtain ⟨q02, q12, q22, q32, qf2⟩ := id hQ2; obtain ⟨r02, r12, r22, r32, rf2⟩ := id hR2) | (go_at_call 47; refine (empty_any _ _ _ _ _).mono ?_; rintro e w' ⟨rfl, hb⟩; have hB := via (w := w) (by go_grown) hb; have hz := hB.size; have hP : Has4 w' w.heap.size (.int .i64 a) (.int .i64 b) (.int .i64 c) (.int .i64 d) := (((Has4.new rfl _ _ _ _ _).alloc _).alloc _).below hb; have hQ : Has4 w' (w.heap.size + 1) (.int .i64 p) (.int .i64 q) (.int .i64 r) (.int .i64 s) := ((Has4.new (by simp) _ _ _ _ _).alloc _).below hb; have hR : Has4 w' (w.heap.size + 1 + 1) (.int .i64 0) (.int .i64 0) (.int .i64 0) (.int .i64 0) := (Has4.new (by simp) _ _ _ _ _).below hb; clear hb; obtain ⟨p0, p1, p2, p3, pf⟩ := id hP; obtain ⟨q0, q1, q2, q3, qf⟩ := id hQ; obtain ⟨r0, r1, r2, r3, rf⟩ := id hR))
    obtain ⟨s0, s1, s2, s3⟩ := set4 r02 r12 r22 r32 (.int .i64 (orN ⟨p, q, r, s⟩).x0) (.int .i64 (orN ⟨p, q, r, s⟩).y0) (.int .i64 (orN ⟨p, q, r, s⟩).x1) (.int .i64 (orN ⟨p, q, r, s⟩).y1)
    refine bodyPost_ret (v := .agg #[.int .i64 (orN ⟨p, q, r, s⟩).x0, .int .i64 (orN ⟨p, q, r, s⟩).y0, .int .i64 (orN ⟨p, q, r, s⟩).x1, .int .i64 (orN ⟨p, q, r, s⟩).y1]) (by simp [results, Tryd.results53, go_sem, s0, s1, s2, s3]) rfl ⟨rfl, ?_⟩
    go_grown


set_option maxHeartbeats 400000 in
theorem grow_any (a b c d k l m n : Int) (w : World) (ho : Ok ⟨a, b, c, d⟩) (hk : 0 ≤ k ∧ k ≤ 4398046511104) (hl : 0 ≤ l ∧ l ≤ 4398046511104) (hm : 0 ≤ m ∧ m ≤ 4398046511104) (hn : 0 ≤ n ∧ n ≤ 4398046511104) :
    Calls Tryd.prog 50 #[.agg #[.int .i64 a, .int .i64 b, .int .i64 c, .int .i64 d], .int .i64 k, .int .i64 l, .int .i64 m, .int .i64 n] w fun e w' => e = .returned (.agg #[.int .i64 (grow ⟨a, b, c, d⟩ k l m n).x0, .int .i64 (grow ⟨a, b, c, d⟩ k l m n).y0, .int .i64 (grow ⟨a, b, c, d⟩ k l m n).x1, .int .i64 (grow ⟨a, b, c, d⟩ k l m n).y1]) ∧ Below w.heap.size w w' := by
  obtain ⟨⟨a0, a1⟩, ⟨b0, b1⟩, ⟨c0, c1⟩, d0, d1⟩ := ho
  dsimp only at a0 a1 b0 b1 c0 c1 d0 d1
  obtain ⟨k0, k1⟩ := hk
  obtain ⟨l0, l1⟩ := hl
  obtain ⟨m0, m1⟩ := hm
  obtain ⟨n0, n1⟩ := hn
  rcases h : empB ⟨a, b, c, d⟩ with _ | _
  · have E : grow ⟨a, b, c, d⟩ k l m n = cutR (a - k) (b - l) (c + m) (d + n) := by unfold grow; rw [if_neg (by simp [h])]
    rw [E]
    clear E
    go_enter Tryd.func50, Tryd.ntmps50
    go_wp2_with (first | (go_at_call 47; refine (empty_any _ _ _ _ _).mono ?_; rintro e w' ⟨rfl, hb⟩; have hB := via (w := w) (by go_grown) hb; have hz := hB.size; have hP : Has4 w' w.heap.size (.int .i64 a) (.int .i64 b) (.int .i64 c) (.int .i64 d) := ((Has4.new rfl _ _ _ _ _).alloc _).below hb; have hR : Has4 w' (w.heap.size + 1) (.int .i64 0) (.int .i64 0) (.int .i64 0) (.int .i64 0) := (Has4.new (by simp) _ _ _ _ _).below hb; clear hb; obtain ⟨p0, p1, p2, p3, pf⟩ := id hP; obtain ⟨r0, r1, r2, r3, rf⟩ := id hR) | (go_at_call 66; refine (cut_any _ (a - k) (b - l) (c + m) (d + n) _ (by simp) (by simp) (by simp) (by simp)).mono ?_; rintro e w'2 ⟨rfl, hb2⟩; have hR2 := (hR.alloc _).below hb2; have hB2 := via (w := w) (by go_grown) hb2; clear hb2 hB r0 r1 r2 r3 rf; obtain ⟨r0, r1, r2, r3, rf⟩ := id hR2))
    obtain ⟨s0, s1, s2, s3⟩ := set4 r0 r1 r2 r3 (.int .i64 (cutR (a - k) (b - l) (c + m) (d + n)).x0) (.int .i64 (cutR (a - k) (b - l) (c + m) (d + n)).y0) (.int .i64 (cutR (a - k) (b - l) (c + m) (d + n)).x1) (.int .i64 (cutR (a - k) (b - l) (c + m) (d + n)).y1)
    refine bodyPost_ret (v := .agg #[.int .i64 (cutR (a - k) (b - l) (c + m) (d + n)).x0, .int .i64 (cutR (a - k) (b - l) (c + m) (d + n)).y0, .int .i64 (cutR (a - k) (b - l) (c + m) (d + n)).x1, .int .i64 (cutR (a - k) (b - l) (c + m) (d + n)).y1]) (by simp [results, Tryd.results50, go_sem, s0, s1, s2, s3]) rfl ⟨rfl, ?_⟩
    go_grown

  · have E : grow ⟨a, b, c, d⟩ k l m n = nil := by unfold grow; rw [if_pos h]
    rw [E]
    clear E
    go_enter Tryd.func50, Tryd.ntmps50
    go_wp2_with (first | (go_at_call 47; refine (empty_any _ _ _ _ _).mono ?_; rintro e w' ⟨rfl, hb⟩; have hB := via (w := w) (by go_grown) hb; have hz := hB.size; have hP : Has4 w' w.heap.size (.int .i64 a) (.int .i64 b) (.int .i64 c) (.int .i64 d) := ((Has4.new rfl _ _ _ _ _).alloc _).below hb; have hR : Has4 w' (w.heap.size + 1) (.int .i64 0) (.int .i64 0) (.int .i64 0) (.int .i64 0) := (Has4.new (by simp) _ _ _ _ _).below hb; clear hb; obtain ⟨p0, p1, p2, p3, pf⟩ := id hP; obtain ⟨r0, r1, r2, r3, rf⟩ := id hR))
    obtain ⟨s0, s1, s2, s3⟩ := set4 r0 r1 r2 r3 (.int .i64 0) (.int .i64 0) (.int .i64 0) (.int .i64 0)
    refine bodyPost_ret (v := .agg #[.int .i64 0, .int .i64 0, .int .i64 0, .int .i64 0]) (by simp [results, Tryd.results50, go_sem, s0, s1, s2, s3]) rfl ⟨rfl, ?_⟩
    go_grown


/-- what stands while a region goes: the cells that it reads; that there is room for the answer; that nothing else has turned -/
def Rest (w : World) (k : Nat) (w' : World) : Prop := Below w.heap.size w w' ∧ w.heap.size ≤ k ∧ ∃ v0 v1 v2 v3, Has4 w' k v0 v1 v2 v3
abbrev Sx (w : World) (p k : Nat) (v0 v1 v2 v3 : Value) (w' : World) : Prop := (w'.cell? ⟨p, 0, none⟩ = some v0 ∧ w'.cell? ⟨p, 1, none⟩ = some v1 ∧ w'.cell? ⟨p, 2, none⟩ = some v2 ∧ w'.cell? ⟨p, 3, none⟩ = some v3) ∧ Rest w k w'
theorem sx_below {w : World} {p k : Nat} {v0 v1 v2 v3 : Value} {w1 w2 : World} (h : Sx w p k v0 v1 v2 v3 w1) (hb : Below w1.heap.size w1 w2) : Sx w p k v0 v1 v2 v3 w2 := by
  obtain ⟨⟨c0, c1, c2, c3⟩, hB, hk, u0, u1, u2, u3, hR⟩ := h
  have hp : p < w1.heap.size := World.block_lt_of_cell? w1 ⟨p, 0, none⟩ c0
  obtain ⟨hc, hf⟩ := bcell hb
  exact ⟨⟨by rw [hc _ _ hp]; exact c0, by rw [hc _ _ hp]; exact c1, by rw [hc _ _ hp]; exact c2, by rw [hc _ _ hp]; exact c3⟩, via hB hb, hk, u0, u1, u2, u3, hR.below hb⟩
theorem sx_drew {w : World} {p k : Nat} {v0 v1 v2 v3 : Value} {w1 : World} (h : Sx w p k v0 v1 v2 v3 w1) : Sx w p k v0 v1 v2 v3 w1.drew := sx_below h (Below.refl _ _).drew
theorem sx_alloc {w : World} {p k : Nat} {v0 v1 v2 v3 : Value} {w1 : World} {o : Obj} (h : Sx w p k v0 v1 v2 v3 w1) : Sx w p k v0 v1 v2 v3 (w1.alloc o) :=
  sx_below h ((Below.refl _ _).alloc (Nat.le_refl _) _)
theorem sx_set {w : World} {p k : Nat} {v0 v1 v2 v3 : Value} {w1 : World} {x0 x1 x2 x3 : Value} (ne : k ≠ p) (h : Sx w p k v0 v1 v2 v3 w1) :
    Sx w p k v0 v1 v2 v3 ((((w1.setCell ⟨k, 0, none⟩ x0).setCell ⟨k, 1, none⟩ x1).setCell ⟨k, 2, none⟩ x2).setCell ⟨k, 3, none⟩ x3) := by
  obtain ⟨⟨c0, c1, c2, c3⟩, hB, hk, u0, u1, u2, u3, hR⟩ := h
  obtain ⟨s0, s1, s2, s3⟩ := set4 hR.c0 hR.c1 hR.c2 hR.c3 x0 x1 x2 x3
  refine ⟨⟨?_, ?_, ?_, ?_⟩, ?_, hk, x0, x1, x2, x3, s0, s1, s2, s3, fun o => ?_⟩
  · simp [World.cell?_setCell_far, ne, c0]
  · simp [World.cell?_setCell_far, ne, c1]
  · simp [World.cell?_setCell_far, ne, c2]
  · simp [World.cell?_setCell_far, ne, c3]
  · exact (((hB.setCell (by exact hk) _).setCell (by exact hk) _).setCell (by exact hk) _).setCell (by exact hk) _
  · simp [World.frozen?_setCell, hR.fz o]

set_option maxHeartbeats 1000000 in
theorem move_any (a b c d k l : Int) (w : World) (ho : Ok ⟨a, b, c, d⟩) (hk : -4398046511104 ≤ k ∧ k ≤ 4398046511104) (hl : -4398046511104 ≤ l ∧ l ≤ 4398046511104) :
    Calls Tryd.prog 49 #[.agg #[.int .i64 a, .int .i64 b, .int .i64 c, .int .i64 d], .int .i64 k, .int .i64 l] w fun e w' => e = .returned (.agg #[.int .i64 (moveR ⟨a, b, c, d⟩ k l).x0, .int .i64 (moveR ⟨a, b, c, d⟩ k l).y0, .int .i64 (moveR ⟨a, b, c, d⟩ k l).x1, .int .i64 (moveR ⟨a, b, c, d⟩ k l).y1]) ∧ Below w.heap.size w w' := by
  obtain ⟨⟨a0, a1⟩, ⟨b0, b1⟩, ⟨c0, c1⟩, d0, d1⟩ := ho
  dsimp only at a0 a1 b0 b1 c0 c1 d0 d1
  obtain ⟨k0, k1⟩ := hk
  obtain ⟨l0, l1⟩ := hl
  rcases h : empB ⟨a, b, c, d⟩ with _ | _
  · have E : moveR ⟨a, b, c, d⟩ k l = cutR (mvd a k) (mvd b l) (mvd c k) (mvd d l) := by unfold moveR; rw [if_neg (by simp [h])]
    rw [E]
    clear E
    go_enter Tryd.func49, Tryd.ntmps49
    go_wp2_with (first | (go_at_call 47; refine (empty_any _ _ _ _ _).mono ?_; rintro e w' ⟨rfl, hb⟩; have hB := via (w := w) (by go_grown) hb; have hz := hB.size; have hP : Has4 w' w.heap.size (.int .i64 a) (.int .i64 b) (.int .i64 c) (.int .i64 d) := ((Has4.new rfl _ _ _ _ _).alloc _).below hb; have hR : Has4 w' (w.heap.size + 1) (.int .i64 0) (.int .i64 0) (.int .i64 0) (.int .i64 0) := (Has4.new (by simp) _ _ _ _ _).below hb; clear hb; obtain ⟨p0, p1, p2, p3, pf⟩ := id hP; obtain ⟨r0, r1, r2, r3, rf⟩ := id hR))
    have hS : Sx w w.heap.size (w.heap.size + 1) (.int .i64 a) (.int .i64 b) (.int .i64 c) (.int .i64 d) w' := ⟨⟨p0, p1, p2, p3⟩, hB, by omega, _, _, _, _, hR⟩
    go_region_held3 (fun w' => (w'.cell? ⟨w.heap.size, 0, none⟩ = some (.int .i64 a) ∧ w'.cell? ⟨w.heap.size, 1, none⟩ = some (.int .i64 b) ∧ w'.cell? ⟨w.heap.size, 2, none⟩ = some (.int .i64 c) ∧ w'.cell? ⟨w.heap.size, 3, none⟩ = some (.int .i64 d)) ∧ Rest w (w.heap.size + 1) w') (repeat (first | with_reducible assumption | with_reducible refine sx_drew ?_ | with_reducible refine sx_alloc ?_ | with_reducible refine sx_set (by omega) ?_ | with_reducible refine sx_below ?_ ‹_›)) ((first | (go_at_call 67; refine (moved_any _ _ _ (by omega) (by omega)).mono ?_; rintro e w1 ⟨rfl, rfl⟩) | (go_at_call 66; refine (cut_any _ (mvd a k) (mvd b l) (mvd c k) (mvd d l) _ (by simp) (by simp) (by simp) (by simp)).mono ?_; rintro e w'2 ⟨rfl, hb2⟩; have hq : Sx w w.heap.size (w.heap.size + 1) (.int .i64 a) (.int .i64 b) (.int .i64 c) (.int .i64 d) w'2 := sx_below (by repeat (first | with_reducible assumption | with_reducible refine sx_drew ?_ | with_reducible refine sx_alloc ?_)) hb2; obtain ⟨hq1, hB2, hRle, u0, u1, u2, u3, t0, t1, t2, t3, tf⟩ := id hq)))
    go_wp2
    obtain ⟨s0, s1, s2, s3⟩ := set4 t0 t1 t2 t3 (.int .i64 (cutR (mvd a k) (mvd b l) (mvd c k) (mvd d l)).x0) (.int .i64 (cutR (mvd a k) (mvd b l) (mvd c k) (mvd d l)).y0) (.int .i64 (cutR (mvd a k) (mvd b l) (mvd c k) (mvd d l)).x1) (.int .i64 (cutR (mvd a k) (mvd b l) (mvd c k) (mvd d l)).y1)
    refine bodyPost_ret (v := .agg #[.int .i64 (cutR (mvd a k) (mvd b l) (mvd c k) (mvd d l)).x0, .int .i64 (cutR (mvd a k) (mvd b l) (mvd c k) (mvd d l)).y0, .int .i64 (cutR (mvd a k) (mvd b l) (mvd c k) (mvd d l)).x1, .int .i64 (cutR (mvd a k) (mvd b l) (mvd c k) (mvd d l)).y1]) (by simp [results, Tryd.results49, go_sem, s0, s1, s2, s3]) rfl ⟨rfl, ?_⟩
    go_grown
  · have E : moveR ⟨a, b, c, d⟩ k l = nil := by unfold moveR; rw [if_pos h]
    rw [E]
    clear E
    go_enter Tryd.func49, Tryd.ntmps49
    go_wp2_with (first | (go_at_call 47; refine (empty_any _ _ _ _ _).mono ?_; rintro e w' ⟨rfl, hb⟩; have hB := via (w := w) (by go_grown) hb; have hz := hB.size; have hP : Has4 w' w.heap.size (.int .i64 a) (.int .i64 b) (.int .i64 c) (.int .i64 d) := ((Has4.new rfl _ _ _ _ _).alloc _).below hb; have hR : Has4 w' (w.heap.size + 1) (.int .i64 0) (.int .i64 0) (.int .i64 0) (.int .i64 0) := (Has4.new (by simp) _ _ _ _ _).below hb; clear hb; obtain ⟨p0, p1, p2, p3, pf⟩ := id hP; obtain ⟨r0, r1, r2, r3, rf⟩ := id hR))
    obtain ⟨s0, s1, s2, s3⟩ := set4 r0 r1 r2 r3 (.int .i64 0) (.int .i64 0) (.int .i64 0) (.int .i64 0)
    refine bodyPost_ret (v := .agg #[.int .i64 0, .int .i64 0, .int .i64 0, .int .i64 0]) (by simp [results, Tryd.results49, go_sem, s0, s1, s2, s3]) rfl ⟨rfl, ?_⟩
    go_grown

end Go.Proofs.YtamojciiacmjaaaDoor.Rg.Rc
/- The document's join of two rectangles, and its bounds of a region: contracts. -/
namespace Go.Proofs.YtamojciiacmjaaaDoor.Rg.Rc
open Num Go.RowKit
set_option linter.unusedVariables false
set_option linter.unusedSimpArgs false

abbrev Sj (w : World) (p q k : Nat) (v0 v1 v2 v3 u0 u1 u2 u3 : Int) (w' : World) : Prop := (w'.cell? ⟨p, 0, none⟩ = some (.int .i64 v0) ∧ w'.cell? ⟨p, 1, none⟩ = some (.int .i64 v1) ∧ w'.cell? ⟨p, 2, none⟩ = some (.int .i64 v2) ∧ w'.cell? ⟨p, 3, none⟩ = some (.int .i64 v3) ∧ w'.cell? ⟨q, 0, none⟩ = some (.int .i64 u0) ∧ w'.cell? ⟨q, 1, none⟩ = some (.int .i64 u1) ∧ w'.cell? ⟨q, 2, none⟩ = some (.int .i64 u2) ∧ w'.cell? ⟨q, 3, none⟩ = some (.int .i64 u3)) ∧ Rest w k w'
theorem sj_below {w : World} {p q k : Nat} {v0 v1 v2 v3 u0 u1 u2 u3 : Int} {w1 w2 : World} (h : Sj w p q k v0 v1 v2 v3 u0 u1 u2 u3 w1) (hb : Below w1.heap.size w1 w2) : Sj w p q k v0 v1 v2 v3 u0 u1 u2 u3 w2 := by
  obtain ⟨⟨c0, c1, c2, c3, d0, d1, d2, d3⟩, hB, hk, x0, x1, x2, x3, hR⟩ := h
  have hp : p < w1.heap.size := World.block_lt_of_cell? w1 ⟨p, 0, none⟩ c0
  have hq : q < w1.heap.size := World.block_lt_of_cell? w1 ⟨q, 0, none⟩ d0
  obtain ⟨hc, hf⟩ := bcell hb
  exact ⟨⟨by rw [hc _ _ hp]; exact c0, by rw [hc _ _ hp]; exact c1, by rw [hc _ _ hp]; exact c2, by rw [hc _ _ hp]; exact c3, by rw [hc _ _ hq]; exact d0, by rw [hc _ _ hq]; exact d1, by rw [hc _ _ hq]; exact d2, by rw [hc _ _ hq]; exact d3⟩, via hB hb, hk, x0, x1, x2, x3, hR.below hb⟩
theorem sj_drew {w : World} {p q k : Nat} {v0 v1 v2 v3 u0 u1 u2 u3 : Int} {w1 : World} (h : Sj w p q k v0 v1 v2 v3 u0 u1 u2 u3 w1) : Sj w p q k v0 v1 v2 v3 u0 u1 u2 u3 w1.drew := sj_below h (Below.refl _ _).drew
theorem sj_alloc {w : World} {p q k : Nat} {v0 v1 v2 v3 u0 u1 u2 u3 : Int} {w1 : World} {o : Obj} (h : Sj w p q k v0 v1 v2 v3 u0 u1 u2 u3 w1) : Sj w p q k v0 v1 v2 v3 u0 u1 u2 u3 (w1.alloc o) :=
  sj_below h ((Below.refl _ _).alloc (Nat.le_refl _) _)
theorem sj_set {w : World} {p q k : Nat} {v0 v1 v2 v3 u0 u1 u2 u3 : Int} {w1 : World} {x0 x1 x2 x3 : Value} (ne : k ≠ p) (ne' : k ≠ q) (h : Sj w p q k v0 v1 v2 v3 u0 u1 u2 u3 w1) :
    Sj w p q k v0 v1 v2 v3 u0 u1 u2 u3 ((((w1.setCell ⟨k, 0, none⟩ x0).setCell ⟨k, 1, none⟩ x1).setCell ⟨k, 2, none⟩ x2).setCell ⟨k, 3, none⟩ x3) := by
  obtain ⟨⟨c0, c1, c2, c3, d0, d1, d2, d3⟩, hB, hk, y0, y1, y2, y3, hR⟩ := h
  obtain ⟨s0, s1, s2, s3⟩ := set4 hR.c0 hR.c1 hR.c2 hR.c3 x0 x1 x2 x3
  refine ⟨⟨?_, ?_, ?_, ?_, ?_, ?_, ?_, ?_⟩, ?_, hk, x0, x1, x2, x3, s0, s1, s2, s3, fun o => ?_⟩
  · simp [World.cell?_setCell_far, ne, c0]
  · simp [World.cell?_setCell_far, ne, c1]
  · simp [World.cell?_setCell_far, ne, c2]
  · simp [World.cell?_setCell_far, ne, c3]
  · simp [World.cell?_setCell_far, ne', d0]
  · simp [World.cell?_setCell_far, ne', d1]
  · simp [World.cell?_setCell_far, ne', d2]
  · simp [World.cell?_setCell_far, ne', d3]
  · exact (((hB.setCell (by exact hk) _).setCell (by exact hk) _).setCell (by exact hk) _).setCell (by exact hk) _
  · simp [World.frozen?_setCell, hR.fz o]

theorem orN_both {a b c d p q r s : Int} (h : empB ⟨a, b, c, d⟩ = false) (h' : empB ⟨p, q, r, s⟩ = false) : join ⟨a, b, c, d⟩ ⟨p, q, r, s⟩ = orN ⟨mn a p, mn b q, mx c r, mx d s⟩ := by
  have e : empB ⟨mn a p, mn b q, mx c r, mx d s⟩ = false := by
    unfold empB at *
    unfold mn mx
    simp at *
    omega
  unfold join orN
  rw [if_neg (by simp [h]), if_neg (by simp [h']), if_neg (by simp [e])]

set_option maxHeartbeats 1000000 in
theorem refJoin_any (a b c d p q r s : Int) (w : World) :
    Calls Tryd.prog 19 #[.agg #[.int .i64 a, .int .i64 b, .int .i64 c, .int .i64 d], .agg #[.int .i64 p, .int .i64 q, .int .i64 r, .int .i64 s]] w fun e w' => e = .returned (.agg #[.int .i64 (join ⟨a, b, c, d⟩ ⟨p, q, r, s⟩).x0, .int .i64 (join ⟨a, b, c, d⟩ ⟨p, q, r, s⟩).y0, .int .i64 (join ⟨a, b, c, d⟩ ⟨p, q, r, s⟩).x1, .int .i64 (join ⟨a, b, c, d⟩ ⟨p, q, r, s⟩).y1]) ∧ Below w.heap.size w w' := by
  rcases h : empB ⟨a, b, c, d⟩ with _ | _
  · rcases h' : empB ⟨p, q, r, s⟩ with _ | _
    · rw [orN_both h h']
      go_enter Tryd.func19, Tryd.ntmps19
      go_wp2_with (first | (go_at_call 27; have hP := hP; refine (refEmpty_any _ _ _ _ _).mono ?_; rintro e w'2 ⟨rfl, hb2⟩; have hB2 := via hB hb2; have hP2 := hP.below hb2; have hQ2 := hQ.below hb2; have hR2 := hR.below hb2; clear hb2; obtain ⟨p02, p12, p22, p32, pf2⟩ := id hP2; obtain ⟨q02, q12, q22, q32, qf2⟩ := id hQ2; obtain ⟨r02, r12, r22, r32, rf2⟩ := id hR2) | (go_at_call 27; refine (refEmpty_any _ _ _ _ _).mono ?_; rintro e w' ⟨rfl, hb⟩; have hB := via (w := w) (by go_grown) hb; have hz := hB.size; have hP : Has4 w' w.heap.size (.int .i64 a) (.int .i64 b) (.int .i64 c) (.int .i64 d) := (((Has4.new rfl _ _ _ _ _).alloc _).alloc _).below hb; have hQ : Has4 w' (w.heap.size + 1) (.int .i64 p) (.int .i64 q) (.int .i64 r) (.int .i64 s) := ((Has4.new (by simp) _ _ _ _ _).alloc _).below hb; have hR : Has4 w' (w.heap.size + 1 + 1) (.int .i64 0) (.int .i64 0) (.int .i64 0) (.int .i64 0) := (Has4.new (by simp) _ _ _ _ _).below hb; clear hb; obtain ⟨p0, p1, p2, p3, pf⟩ := id hP; obtain ⟨q0, q1, q2, q3, qf⟩ := id hQ; obtain ⟨r0, r1, r2, r3, rf⟩ := id hR))
      have hS : Sj w w.heap.size (w.heap.size + 1) (w.heap.size + 1 + 1) a b c d p q r s w'2 := ⟨⟨p02, p12, p22, p32, q02, q12, q22, q32⟩, hB2, by omega, _, _, _, _, hR2⟩
      go_region_held3 (fun w' => (w'.cell? ⟨w.heap.size, 0, none⟩ = some (.int .i64 a) ∧ w'.cell? ⟨w.heap.size, 1, none⟩ = some (.int .i64 b) ∧ w'.cell? ⟨w.heap.size, 2, none⟩ = some (.int .i64 c) ∧ w'.cell? ⟨w.heap.size, 3, none⟩ = some (.int .i64 d) ∧ w'.cell? ⟨w.heap.size + 1, 0, none⟩ = some (.int .i64 p) ∧ w'.cell? ⟨w.heap.size + 1, 1, none⟩ = some (.int .i64 q) ∧ w'.cell? ⟨w.heap.size + 1, 2, none⟩ = some (.int .i64 r) ∧ w'.cell? ⟨w.heap.size + 1, 3, none⟩ = some (.int .i64 s)) ∧ Rest w (w.heap.size + 1 + 1) w') (repeat (first | with_reducible assumption | with_reducible refine sj_drew ?_ | with_reducible refine sj_alloc ?_ | with_reducible refine sj_set (by omega) (by omega) ?_ | with_reducible refine sj_below ?_ ‹_›)) ((first | (go_at_call 42; refine (less_any _ _ _).mono ?_; rintro e w1 ⟨rfl, rfl⟩) | (go_at_call 43; refine (more_any _ _ _).mono ?_; rintro e w1 ⟨rfl, rfl⟩) | (go_at_call 41; refine (some_any _ _ _ _ _).mono ?_; rintro e w3 ⟨rfl, hb3⟩; have hq : Sj w w.heap.size (w.heap.size + 1) (w.heap.size + 1 + 1) a b c d p q r s w3 := sj_below (by repeat (first | with_reducible assumption | with_reducible refine sj_drew ?_ | with_reducible refine sj_alloc ?_)) hb3; obtain ⟨hq1, hB3, hRle, u0, u1, u2, u3, t0, t1, t2, t3, tf⟩ := id hq)))
      go_wp2
      obtain ⟨s0, s1, s2, s3⟩ := set4 t0 t1 t2 t3 (.int .i64 (orN ⟨mn a p, mn b q, mx c r, mx d s⟩).x0) (.int .i64 (orN ⟨mn a p, mn b q, mx c r, mx d s⟩).y0) (.int .i64 (orN ⟨mn a p, mn b q, mx c r, mx d s⟩).x1) (.int .i64 (orN ⟨mn a p, mn b q, mx c r, mx d s⟩).y1)
      refine bodyPost_ret (v := .agg #[.int .i64 (orN ⟨mn a p, mn b q, mx c r, mx d s⟩).x0, .int .i64 (orN ⟨mn a p, mn b q, mx c r, mx d s⟩).y0, .int .i64 (orN ⟨mn a p, mn b q, mx c r, mx d s⟩).x1, .int .i64 (orN ⟨mn a p, mn b q, mx c r, mx d s⟩).y1]) (by simp [results, Tryd.results19, go_sem, s0, s1, s2, s3]) rfl ⟨rfl, ?_⟩
      go_grown
    · have E : join ⟨a, b, c, d⟩ ⟨p, q, r, s⟩ = ⟨a, b, c, d⟩ := by unfold join; rw [if_neg (by simp [h]), if_pos h']
      rw [E]
      clear E
      go_enter Tryd.func19, Tryd.ntmps19
      go_wp2_with (first | (go_at_call 27; have hP := hP; refine (refEmpty_any _ _ _ _ _).mono ?_; rintro e w'2 ⟨rfl, hb2⟩; have hB2 := via hB hb2; have hP2 := hP.below hb2; have hQ2 := hQ.below hb2; have hR2 := hR.below hb2; clear hb2; obtain ⟨p02, p12, p22, p32, pf2⟩ := id hP2; obtain ⟨q02, q12, q22, q32, qf2⟩ := id hQ2; obtain ⟨r02, r12, r22, r32, rf2⟩ := id hR2) | (go_at_call 27; refine (refEmpty_any _ _ _ _ _).mono ?_; rintro e w' ⟨rfl, hb⟩; have hB := via (w := w) (by go_grown) hb; have hz := hB.size; have hP : Has4 w' w.heap.size (.int .i64 a) (.int .i64 b) (.int .i64 c) (.int .i64 d) := (((Has4.new rfl _ _ _ _ _).alloc _).alloc _).below hb; have hQ : Has4 w' (w.heap.size + 1) (.int .i64 p) (.int .i64 q) (.int .i64 r) (.int .i64 s) := ((Has4.new (by simp) _ _ _ _ _).alloc _).below hb; have hR : Has4 w' (w.heap.size + 1 + 1) (.int .i64 0) (.int .i64 0) (.int .i64 0) (.int .i64 0) := (Has4.new (by simp) _ _ _ _ _).below hb; clear hb; obtain ⟨p0, p1, p2, p3, pf⟩ := id hP; obtain ⟨q0, q1, q2, q3, qf⟩ := id hQ; obtain ⟨r0, r1, r2, r3, rf⟩ := id hR))
      obtain ⟨s0, s1, s2, s3⟩ := set4 r02 r12 r22 r32 (.int .i64 a) (.int .i64 b) (.int .i64 c) (.int .i64 d)
      refine bodyPost_ret (v := .agg #[.int .i64 a, .int .i64 b, .int .i64 c, .int .i64 d]) (by simp [results, Tryd.results19, go_sem, s0, s1, s2, s3]) rfl ⟨rfl, ?_⟩
      go_grown
  · have E : join ⟨a, b, c, d⟩ ⟨p, q, r, s⟩ = orN ⟨p, q, r, s⟩ := by unfold join; rw [if_pos h]
    rw [E]
    clear E
    go_enter Tryd.func19, Tryd.ntmps19
    go_wp2_with (first | (go_at_call 41; have hP := hP; refine (some_any _ _ _ _ _).mono ?_; rintro e w'2 ⟨rfl, hb2⟩; have hB2 := via hB hb2; have hP2 := hP.below hb2; have hQ2 := hQ.below hb2; have hR2 := hR.below hb2; clear hb2; obtain ⟨p02, p12, p22, p32, pf2⟩ := id hP2; obtain ⟨q02, q12, q22, q32, qf2⟩ := id hQ2; obtain ⟨r02, r12, r22, r32, rf2⟩ := id hR2) | (go_at_call 27; refine (refEmpty_any _ _ _ _ _).mono ?_; rintro e w' ⟨rfl, hb⟩; have hB := via (w := w) (by go_grown) hb; have hz := hB.size; have hP : Has4 w' w.heap.size (.int .i64 a) (.int .i64 b) (.int .i64 c) (.int .i64 d) := (((Has4.new rfl _ _ _ _ _).alloc _).alloc _).below hb; have hQ : Has4 w' (w.heap.size + 1) (.int .i64 p) (.int .i64 q) (.int .i64 r) (.int .i64 s) := ((Has4.new (by simp) _ _ _ _ _).alloc _).below hb; have hR : Has4 w' (w.heap.size + 1 + 1) (.int .i64 0) (.int .i64 0) (.int .i64 0) (.int .i64 0) := (Has4.new (by simp) _ _ _ _ _).below hb; clear hb; obtain ⟨p0, p1, p2, p3, pf⟩ := id hP; obtain ⟨q0, q1, q2, q3, qf⟩ := id hQ; obtain ⟨r0, r1, r2, r3, rf⟩ := id hR))
    obtain ⟨s0, s1, s2, s3⟩ := set4 r02 r12 r22 r32 (.int .i64 (orN ⟨p, q, r, s⟩).x0) (.int .i64 (orN ⟨p, q, r, s⟩).y0) (.int .i64 (orN ⟨p, q, r, s⟩).x1) (.int .i64 (orN ⟨p, q, r, s⟩).y1)
    refine bodyPost_ret (v := .agg #[.int .i64 (orN ⟨p, q, r, s⟩).x0, .int .i64 (orN ⟨p, q, r, s⟩).y0, .int .i64 (orN ⟨p, q, r, s⟩).x1, .int .i64 (orN ⟨p, q, r, s⟩).y1]) (by simp [results, Tryd.results19, go_sem, s0, s1, s2, s3]) rfl ⟨rfl, ?_⟩
    go_grown

set_option maxRecDepth 100000 in
set_option maxHeartbeats 1000000 in
theorem refMeet_any (a b c d p q r s : Int) (w : World) :
    Calls Tryd.prog 30 #[.agg #[.int .i64 a, .int .i64 b, .int .i64 c, .int .i64 d], .agg #[.int .i64 p, .int .i64 q, .int .i64 r, .int .i64 s]] w fun e w' => e = .returned (.agg #[.int .i64 (meet ⟨a, b, c, d⟩ ⟨p, q, r, s⟩).x0, .int .i64 (meet ⟨a, b, c, d⟩ ⟨p, q, r, s⟩).y0, .int .i64 (meet ⟨a, b, c, d⟩ ⟨p, q, r, s⟩).x1, .int .i64 (meet ⟨a, b, c, d⟩ ⟨p, q, r, s⟩).y1]) ∧ Below w.heap.size w w' := by
  have E : meet ⟨a, b, c, d⟩ ⟨p, q, r, s⟩ = orN ⟨mx a p, mx b q, mn c r, mn d s⟩ := rfl
  rw [E]
  clear E
  have hS : Sj w w.heap.size (w.heap.size + 1) (w.heap.size + 1 + 1) a b c d p q r s (((w.alloc (.cells #[.int .i64 a, .int .i64 b, .int .i64 c, .int .i64 d] 26)).alloc (.cells #[.int .i64 p, .int .i64 q, .int .i64 r, .int .i64 s] 26)).alloc (.cells #[.int .i64 0, .int .i64 0, .int .i64 0, .int .i64 0] 26)) := by
    have h1 : Has4 (((w.alloc (.cells #[.int .i64 a, .int .i64 b, .int .i64 c, .int .i64 d] 26)).alloc (.cells #[.int .i64 p, .int .i64 q, .int .i64 r, .int .i64 s] 26)).alloc (.cells #[.int .i64 0, .int .i64 0, .int .i64 0, .int .i64 0] 26)) w.heap.size (.int .i64 a) (.int .i64 b) (.int .i64 c) (.int .i64 d) := ((Has4.new rfl _ _ _ _ _).alloc _).alloc _
    have h2 : Has4 (((w.alloc (.cells #[.int .i64 a, .int .i64 b, .int .i64 c, .int .i64 d] 26)).alloc (.cells #[.int .i64 p, .int .i64 q, .int .i64 r, .int .i64 s] 26)).alloc (.cells #[.int .i64 0, .int .i64 0, .int .i64 0, .int .i64 0] 26)) (w.heap.size + 1) (.int .i64 p) (.int .i64 q) (.int .i64 r) (.int .i64 s) := (Has4.new (by simp) _ _ _ _ _).alloc _
    have h3 : Has4 (((w.alloc (.cells #[.int .i64 a, .int .i64 b, .int .i64 c, .int .i64 d] 26)).alloc (.cells #[.int .i64 p, .int .i64 q, .int .i64 r, .int .i64 s] 26)).alloc (.cells #[.int .i64 0, .int .i64 0, .int .i64 0, .int .i64 0] 26)) (w.heap.size + 1 + 1) (.int .i64 0) (.int .i64 0) (.int .i64 0) (.int .i64 0) := Has4.new (by simp) _ _ _ _ _
    exact ⟨⟨h1.c0, h1.c1, h1.c2, h1.c3, h2.c0, h2.c1, h2.c2, h2.c3⟩, by go_grown, by omega, _, _, _, _, h3⟩
  go_enter Tryd.func30, Tryd.ntmps30
  go_wp2
  go_region_held3 (fun w' => (w'.cell? ⟨w.heap.size, 0, none⟩ = some (.int .i64 a) ∧ w'.cell? ⟨w.heap.size, 1, none⟩ = some (.int .i64 b) ∧ w'.cell? ⟨w.heap.size, 2, none⟩ = some (.int .i64 c) ∧ w'.cell? ⟨w.heap.size, 3, none⟩ = some (.int .i64 d) ∧ w'.cell? ⟨w.heap.size + 1, 0, none⟩ = some (.int .i64 p) ∧ w'.cell? ⟨w.heap.size + 1, 1, none⟩ = some (.int .i64 q) ∧ w'.cell? ⟨w.heap.size + 1, 2, none⟩ = some (.int .i64 r) ∧ w'.cell? ⟨w.heap.size + 1, 3, none⟩ = some (.int .i64 s)) ∧ Rest w (w.heap.size + 1 + 1) w') (repeat (first | with_reducible assumption | with_reducible refine sj_drew ?_ | with_reducible refine sj_alloc ?_ | with_reducible refine sj_set (by omega) (by omega) ?_ | with_reducible refine sj_below ?_ ‹_›)) ((first | (go_at_call 42; refine (less_any _ _ _).mono ?_; rintro e w1 ⟨rfl, rfl⟩) | (go_at_call 43; refine (more_any _ _ _).mono ?_; rintro e w1 ⟨rfl, rfl⟩) | (go_at_call 41; refine (some_any _ _ _ _ _).mono ?_; rintro e w3 ⟨rfl, hb3⟩; have hq : Sj w w.heap.size (w.heap.size + 1) (w.heap.size + 1 + 1) a b c d p q r s w3 := sj_below (by repeat (first | with_reducible assumption | with_reducible refine sj_drew ?_ | with_reducible refine sj_alloc ?_)) hb3; obtain ⟨hq1, hB3, hRle, u0, u1, u2, u3, t0, t1, t2, t3, tf⟩ := id hq)))
  go_wp2
  obtain ⟨s0, s1, s2, s3⟩ := set4 t0 t1 t2 t3 (.int .i64 (orN ⟨mx a p, mx b q, mn c r, mn d s⟩).x0) (.int .i64 (orN ⟨mx a p, mx b q, mn c r, mn d s⟩).y0) (.int .i64 (orN ⟨mx a p, mx b q, mn c r, mn d s⟩).x1) (.int .i64 (orN ⟨mx a p, mx b q, mn c r, mn d s⟩).y1)
  refine bodyPost_ret (v := .agg #[.int .i64 (orN ⟨mx a p, mx b q, mn c r, mn d s⟩).x0, .int .i64 (orN ⟨mx a p, mx b q, mn c r, mn d s⟩).y0, .int .i64 (orN ⟨mx a p, mx b q, mn c r, mn d s⟩).x1, .int .i64 (orN ⟨mx a p, mx b q, mn c r, mn d s⟩).y1]) (by simp [results, Tryd.results30, go_sem, s0, s1, s2, s3]) rfl ⟨rfl, ?_⟩
  go_grown
end Go.Proofs.YtamojciiacmjaaaDoor.Rg.Rc
