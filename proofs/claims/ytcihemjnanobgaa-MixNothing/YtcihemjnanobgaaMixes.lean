/- What the small functions of package mix, and of the document beside it, do, as contracts: shares, covers and colours. -/
import Derived.Test.YtcihemjnanobgaaRights
import Derived.Test.YtcihemjnanobgaaMixNum
namespace Go.Proofs.Ytcihemjnanobgaa
open Num Go.RowKit
set_option linter.unusedVariables false
set_option linter.unusedSimpArgs false

theorem run_min_i64 (w : World) (ts : Array TypeId) (t : TypeId) (a b : Int) : (Builtin.min_ ts t #[.int .i64 a, .int .i64 b]).run Try.prog w = .ok (.int .i64 (mn a b)) w := by
  simp only [Builtin.min_, List.foldlM, Builtin.min2]
  unfold mn
  by_cases c : a < b
  · rw [Int.min_eq_left (by omega)]; simp; omega
  · rw [Int.min_eq_right (by omega)]; simp; omega
theorem run_max_i64 (w : World) (ts : Array TypeId) (t : TypeId) (a b : Int) : (Builtin.max_ ts t #[.int .i64 a, .int .i64 b]).run Try.prog w = .ok (.int .i64 (mx a b)) w := by
  simp only [Builtin.max_, List.foldlM, Builtin.max2]
  unfold mx
  by_cases c : a < b
  · rw [Int.max_eq_right (by omega)]; simp; omega
  · rw [Int.max_eq_left (by omega)]; simp; omega
theorem run_min_u8 (w : World) (ts : Array TypeId) (t : TypeId) (a b : Int) : (Builtin.min_ ts t #[.int .u8 a, .int .u8 b]).run Try.prog w = .ok (.int .u8 (mn a b)) w := by
  simp only [Builtin.min_, List.foldlM, Builtin.min2]
  unfold mn
  by_cases c : a < b
  · rw [Int.min_eq_left (by omega)]; simp; omega
  · rw [Int.min_eq_right (by omega)]; simp; omega
attribute [local go_sem ↓] run_min_i64 run_max_i64

theorem mulN_any (a b : Int) (w : World) (ha : 0 ≤ a ∧ a ≤ 255) (hb : 0 ≤ b ∧ b ≤ 255) :
    Calls Try.prog 21 #[.int .u8 a, .int .u8 b] w fun e w' => e = .returned (.int .i64 (mulI a b)) ∧ w' = w := by
  have hm := mul_bd ha hb
  go_enter Try.func21, Try.ntmps21
  go_wp2_with (go_at_call 29; refine (mul_any _ _ _ ‹_› ‹_›).mono ?_; rintro e w' ⟨rfl, rfl⟩)
  go_ret
  exact ⟨rfl, rfl⟩
theorem by_any (a b : Int) (w : World) (ha : 0 ≤ a ∧ a ≤ 255) (hb : 0 ≤ b ∧ b ≤ 255) :
    Calls Try.prog 22 #[.int .u8 a, .int .u8 b] w fun e w' => e = .returned (.int .i64 (mulI a b)) ∧ w' = w := by
  have hm := mul_bd ha hb
  go_enter Try.func22, Try.ntmps22
  go_wp2_with (go_at_call 30; refine (refMul_any _ _ _ ‹_› ‹_›).mono ?_; rintro e w' ⟨rfl, rfl⟩)
  go_ret
  exact ⟨rfl, rfl⟩
theorem less_any (a b : Int) (w : World) :
    Calls Try.prog 26 #[.int .i64 a, .int .i64 b] w fun e w' => e = .returned (.int .i64 (mn a b)) ∧ w' = w := by
  by_cases c : a < b
  · go_enter Try.func26, Try.ntmps26
    go_wp2
    go_ret
    exact ⟨ret_int (by unfold mn; omega), rfl⟩
  · go_enter Try.func26, Try.ntmps26
    go_wp2
    go_ret
    exact ⟨ret_int (by unfold mn; omega), rfl⟩

theorem six {op : Int} (h : 0 ≤ op ∧ op ≤ 5) : op = 0 ∨ op = 1 ∨ op = 2 ∨ op = 3 ∨ op = 4 ∨ op = 5 := by omega
theorem seven {m : Int} (h : 0 ≤ m ∧ m ≤ 6) : m = 0 ∨ m = 1 ∨ m = 2 ∨ m = 3 ∨ m = 4 ∨ m = 5 ∨ m = 6 := by omega
theorem six' {m : Int} (h : 1 ≤ m ∧ m ≤ 6) : m = 1 ∨ m = 2 ∨ m = 3 ∨ m = 4 ∨ m = 5 ∨ m = 6 := by omega

theorem shares_any (op A B : Int) (w : World) (ho : 0 ≤ op ∧ op ≤ 5) (hA : 0 ≤ A ∧ A ≤ 255) (hB : 0 ≤ B ∧ B ≤ 255) :
    Calls Try.prog 19 #[.int .i64 op, .int .u8 A, .int .u8 B] w fun e w' => e = .returned (.tuple #[.int .u8 (sA op A B), .int .u8 (sB op A B)]) ∧ w' = w := by
  obtain ⟨A0, A1⟩ := hA
  obtain ⟨B0, B1⟩ := hB
  rcases six ho with rfl | rfl | rfl | rfl | rfl | rfl
  all_goals
    clear ho
    go_enter Try.func19, Try.ntmps19
    go_wp2
    simp [bodyPost, results, Try.results19, go_sem, sA, sB]

theorem apart_any (a b A B : Int) (w : World) (ha : 0 ≤ a ∧ a ≤ 255) (hb : 0 ≤ b ∧ b ≤ 255) (hA : 0 ≤ A ∧ A ≤ 255) (hB : 0 ≤ B ∧ B ≤ 255) :
    Calls Try.prog 31 #[.int .u8 a, .int .u8 b, .int .u8 A, .int .u8 B] w fun e w' => e = .returned (.int .i64 (aprt a b A B)) ∧ w' = w := by
  have lA := less_bd hA
  have lB := less_bd hB
  have m1 := mul_bd ha lB
  have m2 := mul_bd hb lA
  obtain ⟨A0, A1⟩ := id hA
  obtain ⟨B0, B1⟩ := id hB
  obtain ⟨m10, m11⟩ := id m1
  obtain ⟨m20, m21⟩ := id m2
  go_enter Try.func31, Try.ntmps31
  go_wp2_with (go_at_call 21; refine (mulN_any _ _ _ ‹_› ‹_›).mono ?_; rintro e w' ⟨rfl, rfl⟩)
  go_ret
  exact ⟨rfl, rfl⟩

theorem cover_any (m A B : Int) (w : World) (hm : 1 ≤ m ∧ m ≤ 6) (hA : 0 ≤ A ∧ A ≤ 255) (hB : 0 ≤ B ∧ B ≤ 255) :
    Calls Try.prog 24 #[.int .i64 m, .int .u8 A, .int .u8 B] w fun e w' => e = .returned (.int .u8 (cov m A B)) ∧ w' = w := by
  have m1 := mul_bd hA hB
  obtain ⟨A0, A1⟩ := id hA
  obtain ⟨B0, B1⟩ := id hB
  obtain ⟨m10, m11⟩ := id m1
  by_cases c : m = 6
  · subst c
    go_enter Try.func24, Try.ntmps24
    go_wp2_with (first | (go_at_call 20; refine (cut_any _ _ ⟨by omega, by omega⟩).mono ?_; rintro e w' ⟨rfl, rfl⟩) | (go_at_call 21; refine (mulN_any _ _ _ ‹_› ‹_›).mono ?_; rintro e w' ⟨rfl, rfl⟩))
    go_ret
    exact ⟨rfl, rfl⟩
  · have c' : (m == 6) = false := by simp [c]
    go_enter Try.func24, Try.ntmps24
    go_wp2_with (first | (go_at_call 20; refine (cut_any _ _ ⟨by omega, by omega⟩).mono ?_; rintro e w' ⟨rfl, rfl⟩) | (go_at_call 21; refine (mulN_any _ _ _ ‹_› ‹_›).mono ?_; rintro e w' ⟨rfl, rfl⟩))
    go_ret
    exact ⟨ret_int (by unfold cov; rw [if_neg c]), rfl⟩

set_option maxHeartbeats 1000000 in
theorem colour_any (m a b A B : Int) (w : World) (hm : 1 ≤ m ∧ m ≤ 6) (ha : 0 ≤ a ∧ a ≤ 255) (hb : 0 ≤ b ∧ b ≤ 255) (hA : 0 ≤ A ∧ A ≤ 255) (hB : 0 ≤ B ∧ B ≤ 255) :
    Calls Try.prog 25 #[.int .i64 m, .int .u8 a, .int .u8 b, .int .u8 A, .int .u8 B] w fun e w' => e = .returned (.int .i64 (col m a b A B)) ∧ w' = w := by
  have m1 := mul_bd ha hb
  have m2 := mul_bd ha hB
  have m3 := mul_bd hb hA
  have m4 := aprt_bd ha hb hA hB
  have m5 : 0 ≤ mn (mulI a B) (mulI b A) ∧ mn (mulI a B) (mulI b A) ≤ 255 := by unfold mn; omega
  have m6 : 0 ≤ mx (mulI a B) (mulI b A) ∧ mx (mulI a B) (mulI b A) ≤ 255 := by unfold mx; omega
  obtain ⟨a0, a1⟩ := id ha
  obtain ⟨b0, b1⟩ := id hb
  obtain ⟨m10, m11⟩ := id m1
  obtain ⟨m20, m21⟩ := id m2
  obtain ⟨m30, m31⟩ := id m3
  obtain ⟨m40, m41⟩ := id m4
  obtain ⟨m50, m51⟩ := id m5
  obtain ⟨m60, m61⟩ := id m6
  rcases six' hm with rfl | rfl | rfl | rfl | rfl | rfl
  all_goals
    clear hm
    go_enter Try.func25, Try.ntmps25
    go_wp2_with (first | (go_at_call 21; refine (mulN_any _ _ _ ‹_› ‹_›).mono ?_; rintro e w' ⟨rfl, rfl⟩) | (go_at_call 31; refine (apart_any _ _ _ _ _ ‹_› ‹_› ‹_› ‹_›).mono ?_; rintro e w' ⟨rfl, rfl⟩))
    go_ret
    refine ⟨ret_int ?_, rfl⟩
    simp [col]
    try omega
end Go.Proofs.Ytcihemjnanobgaa
