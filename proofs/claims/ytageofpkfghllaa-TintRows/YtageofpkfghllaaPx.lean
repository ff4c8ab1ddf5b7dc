/- What each function of package tone on pixels does, as a contract. -/
import Derived.Test.YtageofpkfghllaaTones
import Derived.WalkLawsBesides
import Derived.Deep.QuietTactic
import Derived.BigQuiet
import Derived.RegionTactic
import Derived.Deep.RegionHeld3
import Derived.Deep.DrawnRows
namespace Go.Proofs.Ytageofpkfghllaa
open Num Go.RowKit
set_option linter.unusedVariables false

/-- no colour is more than alpha -/
def rightB (r g b a : Int) : Bool := decide (r ≤ a) && (decide (g ≤ a) && decide (b ≤ a))
theorem ret_bool {a b : Bool} (h : a = b) : Ending.returned (.bool a) = .returned (.bool b) := by rw [h]

theorem right_any (r g b a : Int) (w : World) (hr : 0 ≤ r ∧ r ≤ 255) (hg : 0 ≤ g ∧ g ≤ 255) (hb : 0 ≤ b ∧ b ≤ 255) (ha : 0 ≤ a ∧ a ≤ 255) :
    Calls Try.prog 15 #[.agg #[.int .u8 r, .int .u8 g, .int .u8 b, .int .u8 a]] w fun e w' => e = .returned (.bool (rightB r g b a)) ∧ ∃ c : Array Value, w' = w.alloc (.cells c 24) := by
  go_enter Try.func15, Try.ntmps15
  go_wp2
  all_goals
    go_ret
    refine ⟨ret_bool ?_, _, rfl⟩
    unfold rightB
    rw [Bool.eq_iff_iff]
    simp
    omega

attribute [local go_sem ↓] Go.wp_at_zero Go.wp_at_succ
theorem thick_any (r g b a : Int) (w : World) (hr : 0 ≤ r ∧ r ≤ 255) (hg : 0 ≤ g ∧ g ≤ 255) (hb : 0 ≤ b ∧ b ≤ 255) (ha : 0 ≤ a ∧ a ≤ 255) :
    Calls Try.prog 20 #[.agg #[.int .u8 r, .int .u8 g, .int .u8 b, .int .u8 a]] w fun e w' => e = .returned (.agg #[.int .u8 (mulI r a), .int .u8 (mulI g a), .int .u8 (mulI b a), .int .u8 a]) ∧ ∃ (c1 c2 : Array Value) (n : Nat), w' = ((w.alloc (.cells c1 24)).alloc (.cells c2 24)).drewN n := by
  go_enter Try.func20, Try.ntmps20
  go_wp2
  refine wp_loop_rounds 4 ?_
  rw [rounds_succ]
  go_wp2
  go_region_with (go_at_call 27; refine (mul_any _ _ _ ‹_› ‹_›).mono ?_; rintro e w' ⟨rfl, rfl⟩)
  all_goals
    go_wp2
    rw [rounds_succ]
    go_wp2
    go_region_with (go_at_call 27; refine (mul_any _ _ _ ‹_› ‹_›).mono ?_; rintro e w' ⟨rfl, rfl⟩)
  all_goals
    go_wp2
    rw [rounds_succ]
    go_wp2
    go_region_with (go_at_call 27; refine (mul_any _ _ _ ‹_› ‹_›).mono ?_; rintro e w' ⟨rfl, rfl⟩)
  all_goals
    go_wp2
    rw [rounds_succ]
    go_wp2
    simp [bodyPost, results, Try.results20, go_sem]
    exact ⟨_, _, 3, rfl⟩

theorem plain_any (r g b a : Int) (w : World) (hr : 0 ≤ r ∧ r ≤ 255) (hg : 0 ≤ g ∧ g ≤ 255) (hb : 0 ≤ b ∧ b ≤ 255) (ha : 0 ≤ a ∧ a ≤ 255) :
    Calls Try.prog 18 #[.agg #[.int .u8 r, .int .u8 g, .int .u8 b, .int .u8 a]] w fun e w' => e = .returned (.agg #[.int .u8 (divI r a), .int .u8 (divI g a), .int .u8 (divI b a), .int .u8 a]) ∧ ∃ (c1 c2 : Array Value) (n : Nat), w' = ((w.alloc (.cells c1 24)).alloc (.cells c2 24)).drewN n := by
  go_enter Try.func18, Try.ntmps18
  go_wp2
  refine wp_loop_rounds 4 ?_
  rw [rounds_succ]
  go_wp2
  go_region_with (go_at_call 25; refine (div_any _ _ _ ‹_› ‹_›).mono ?_; rintro e w' ⟨rfl, rfl⟩)
  all_goals
    go_wp2
    rw [rounds_succ]
    go_wp2
    go_region_with (go_at_call 25; refine (div_any _ _ _ ‹_› ‹_›).mono ?_; rintro e w' ⟨rfl, rfl⟩)
  all_goals
    go_wp2
    rw [rounds_succ]
    go_wp2
    go_region_with (go_at_call 25; refine (div_any _ _ _ ‹_› ‹_›).mono ?_; rintro e w' ⟨rfl, rfl⟩)
  all_goals
    go_wp2
    rw [rounds_succ]
    go_wp2
    simp [bodyPost, results, Try.results18, go_sem]
    exact ⟨_, _, 3, rfl⟩

theorem refPlain_any (r g b a : Int) (w : World) (hr : 0 ≤ r ∧ r ≤ 255) (hg : 0 ≤ g ∧ g ≤ 255) (hb : 0 ≤ b ∧ b ≤ 255) (ha : 0 ≤ a ∧ a ≤ 255) :
    Calls Try.prog 21 #[.agg #[.int .u8 r, .int .u8 g, .int .u8 b, .int .u8 a]] w fun e w' => e = .returned (.agg #[.int .u8 (divI r a), .int .u8 (divI g a), .int .u8 (divI b a), .int .u8 a]) ∧ ∃ (c1 c2 : Array Value) (n : Nat), w' = ((w.alloc (.cells c1 24)).alloc (.cells c2 24)).drewN n := by
  go_enter Try.func21, Try.ntmps21
  go_wp2
  go_region_held3 (fun w' => w'.cell? ⟨w.heap.size, 0, none⟩ = some (.int .u8 r) ∧ w'.cell? ⟨w.heap.size, 1, none⟩ = some (.int .u8 g) ∧ w'.cell? ⟨w.heap.size, 2, none⟩ = some (.int .u8 b) ∧ w'.cell? ⟨w.heap.size, 3, none⟩ = some (.int .u8 a)) (simp [go_sem, World.cell?_alloc_past]) ((go_at_call 28; refine (refDiv_any _ _ _ ‹_› ‹_›).mono ?_; rintro e w' ⟨rfl, rfl⟩))
  go_wp2
  simp [bodyPost, results, Try.results21, go_sem]
  exact ⟨_, _, 1, rfl⟩

theorem refThick_any (r g b a : Int) (w : World) (hr : 0 ≤ r ∧ r ≤ 255) (hg : 0 ≤ g ∧ g ≤ 255) (hb : 0 ≤ b ∧ b ≤ 255) (ha : 0 ≤ a ∧ a ≤ 255) :
    Calls Try.prog 24 #[.agg #[.int .u8 r, .int .u8 g, .int .u8 b, .int .u8 a]] w fun e w' => e = .returned (.agg #[.int .u8 (mulI r a), .int .u8 (mulI g a), .int .u8 (mulI b a), .int .u8 a]) ∧ ∃ (c1 c2 : Array Value) (n : Nat), w' = ((w.alloc (.cells c1 24)).alloc (.cells c2 24)).drewN n := by
  go_enter Try.func24, Try.ntmps24
  go_wp2
  go_region_held3 (fun w' => w'.cell? ⟨w.heap.size, 0, none⟩ = some (.int .u8 r) ∧ w'.cell? ⟨w.heap.size, 1, none⟩ = some (.int .u8 g) ∧ w'.cell? ⟨w.heap.size, 2, none⟩ = some (.int .u8 b) ∧ w'.cell? ⟨w.heap.size, 3, none⟩ = some (.int .u8 a)) (simp [go_sem, World.cell?_alloc_past]) ((go_at_call 29; refine (refMul_any _ _ _ ‹_› ‹_›).mono ?_; rintro e w' ⟨rfl, rfl⟩))
  go_wp2
  simp [bodyPost, results, Try.results24, go_sem]
  exact ⟨_, _, 1, rfl⟩
end Go.Proofs.Ytageofpkfghllaa
