/- What each function of package tone does, as a contract: the product, the quotient and the nearest tone. -/
import Derived.Test.YtageofpkfghllaaChecked
import Derived.Test.YtageofpkfghllaaNum
import Derived.WalkKit
import Derived.Outline
namespace Go.Proofs.Ytageofpkfghllaa
open Num Go.RowKit

theorem ret_int {k : IntKind} {a b : Int} (h : a = b) : Ending.returned (.int k a) = .returned (.int k b) := by rw [h]

theorem mul_any (a b : Int) (w : World) (ha : 0 ≤ a ∧ a ≤ 255) (hb : 0 ≤ b ∧ b ≤ 255) :
    Calls Try.prog 27 #[.int .u8 a, .int .u8 b] w fun e w' => e = .returned (.int .u8 (mulI a b)) ∧ w' = w := by
  have hp := prod_bd ha hb
  obtain ⟨a0, a1⟩ := ha
  obtain ⟨b0, b1⟩ := hb
  obtain ⟨p0, p1⟩ := hp
  go_enter Try.func27, Try.ntmps27
  go_wp2
  go_ret
  exact ⟨rfl, rfl⟩

theorem refMul_any (a b : Int) (w : World) (ha : 0 ≤ a ∧ a ≤ 255) (hb : 0 ≤ b ∧ b ≤ 255) :
    Calls Try.prog 29 #[.int .u8 a, .int .u8 b] w fun e w' => e = .returned (.int .u8 (mulI a b)) ∧ w' = w := by
  have hp := prod_bd ha hb
  have HR : Hid (rnd (a * b) = if 255 < 2 * (a * b - 255 * (a * b / 255)) then a * b / 255 + 1 else a * b / 255) := rnd_ref hp
  obtain ⟨a0, a1⟩ := ha
  obtain ⟨b0, b1⟩ := hb
  obtain ⟨p0, p1⟩ := hp
  go_enter Try.func29, Try.ntmps29
  go_wp2
  · go_ret
    exact ⟨ret_int (by unfold mulI; rw [HR.out, if_pos (by assumption)]), rfl⟩
  · go_ret
    exact ⟨ret_int (by unfold mulI; rw [HR.out, if_neg (by omega)]), rfl⟩

theorem cut_any (n : Int) (w : World) (h : -9223372036854775808 ≤ n ∧ n ≤ 9223372036854775807) :
    Calls Try.prog 26 #[.int .i64 n] w fun e w' => e = .returned (.int .u8 (cutI n)) ∧ w' = w := by
  obtain ⟨h0, h1⟩ := h
  by_cases c1 : n < 0
  · go_enter Try.func26, Try.ntmps26
    go_wp2
    go_ret
    exact ⟨ret_int (by unfold cutI; rw [if_pos c1]), rfl⟩
  · by_cases c2 : 255 < n
    · go_enter Try.func26, Try.ntmps26
      go_wp2
      go_ret
      exact ⟨ret_int (by unfold cutI; rw [if_neg (by omega), if_pos (by omega)]), rfl⟩
    · go_enter Try.func26, Try.ntmps26
      go_wp2
      go_ret
      exact ⟨ret_int (by unfold cutI; rw [if_neg (by omega), if_neg (by omega)]), rfl⟩

theorem refCut_any (n : Int) (w : World) (h : -9223372036854775808 ≤ n ∧ n ≤ 9223372036854775807) :
    Calls Try.prog 22 #[.int .i64 n] w fun e w' => e = .returned (.int .u8 (cutI n)) ∧ w' = w := by
  obtain ⟨h0, h1⟩ := h
  by_cases c1 : n < 0
  · go_enter Try.func22, Try.ntmps22
    go_wp2
    go_ret
    exact ⟨ret_int (by unfold cutI; rw [if_pos c1]), rfl⟩
  · by_cases c2 : 255 < n
    · go_enter Try.func22, Try.ntmps22
      go_wp2
      go_ret
      exact ⟨ret_int (by unfold cutI; rw [if_neg (by omega), if_pos (by omega)]), rfl⟩
    · go_enter Try.func22, Try.ntmps22
      go_wp2
      go_ret
      exact ⟨ret_int (by unfold cutI; rw [if_neg (by omega), if_neg (by omega)]), rfl⟩

theorem quo_hi {c a : Int} (hc : c ≤ 255) (ha : 0 < a) : (510 * c + a) / (2 * a) ≤ 65536 := by
  have := Int.ediv_lt_of_lt_mul (a := 510 * c + a) (b := 65537) (c := 2 * a) (by omega) (by omega); omega

theorem div_any (c a : Int) (w : World) (hc : 0 ≤ c ∧ c ≤ 255) (ha : 0 ≤ a ∧ a ≤ 255) :
    Calls Try.prog 25 #[.int .u8 c, .int .u8 a] w fun e w' => e = .returned (.int .u8 (divI c a)) ∧ w' = w := by
  obtain ⟨a0, a1⟩ := ha
  obtain ⟨c0, c1⟩ := hc
  by_cases h0 : a = 0
  · subst h0
    go_enter Try.func25, Try.ntmps25
    go_wp2
    go_ret
    exact ⟨ret_int (by unfold divI; rw [if_pos rfl]), rfl⟩
  · have ha : 0 < a := by omega
    have q0 : 0 ≤ (510 * c + a) / (2 * a) := quo_bd c0 ha
    have q1 := quo_hi c1 ha
    go_enter Try.func25, Try.ntmps25
    go_wp2_with (go_at_call 26; refine (cut_any _ _ ⟨by omega, by omega⟩).mono ?_; rintro e w' ⟨rfl, rfl⟩)
    go_ret
    exact ⟨ret_int (by unfold divI quoI cutI; rw [if_neg h0, if_neg (by omega)]), rfl⟩

theorem refDiv_any (c a : Int) (w : World) (hc : 0 ≤ c ∧ c ≤ 255) (ha : 0 ≤ a ∧ a ≤ 255) :
    Calls Try.prog 28 #[.int .u8 c, .int .u8 a] w fun e w' => e = .returned (.int .u8 (divI c a)) ∧ w' = w := by
  obtain ⟨a0, a1⟩ := ha
  obtain ⟨c0, c1⟩ := hc
  by_cases h0 : a = 0
  · subst h0
    go_enter Try.func28, Try.ntmps28
    go_wp2
    go_ret
    exact ⟨ret_int (by unfold divI; rw [if_pos rfl]), rfl⟩
  · have ha : 0 < a := by omega
    have q0 : 0 ≤ 255 * c / a := Int.ediv_nonneg (by omega) (by omega)
    have q1 : 255 * c / a ≤ 65025 := Int.le_trans (Int.ediv_le_self _ (by omega)) (by omega)
    have m0 : 0 ≤ a * (255 * c / a) := Int.mul_nonneg (by omega) q0
    have m1 : a * (255 * c / a) ≤ 65025 := by have := Int.mul_ediv_self_le (x := 255 * c) (k := a) (by omega); omega
    have hr := quo_ref (c := c) ha
    by_cases t1 : a ≤ 2 * (255 * c - a * (255 * c / a))
    · rw [if_pos t1] at hr
      have HR : Hid (quoI c a = 255 * c / a + 1) := hr
      clear hr
      by_cases t2 : 255 < 255 * c / a + 1
      · go_enter Try.func28, Try.ntmps28
        go_wp2
        go_ret
        exact ⟨ret_int (by unfold divI; rw [if_neg h0, HR.out, if_pos (by omega)]), rfl⟩
      · go_enter Try.func28, Try.ntmps28
        go_wp2
        go_ret
        exact ⟨ret_int (by unfold divI; rw [if_neg h0, HR.out, if_neg (by omega)]), rfl⟩
    · rw [if_neg t1] at hr
      have HR : Hid (quoI c a = 255 * c / a) := hr
      clear hr
      by_cases t2 : 255 < 255 * c / a
      · go_enter Try.func28, Try.ntmps28
        go_wp2
        go_ret
        exact ⟨ret_int (by unfold divI; rw [if_neg h0, HR.out, if_pos (by omega)]), rfl⟩
      · go_enter Try.func28, Try.ntmps28
        go_wp2
        go_ret
        exact ⟨ret_int (by unfold divI; rw [if_neg h0, HR.out, if_neg (by omega)]), rfl⟩
end Go.Proofs.Ytageofpkfghllaa
