/- What each function of package tone does, as a contract: the product, the quotient and the nearest tone. -/
import Derived.Test.YtcihemjnanobgaaChecked
import Derived.Test.YtcihemjnanobgaaNum
import Derived.WalkKit
import Derived.Outline
namespace Go.Proofs.Ytcihemjnanobgaa
open Num Go.RowKit

theorem ret_int {k : IntKind} {a b : Int} (h : a = b) : Ending.returned (.int k a) = .returned (.int k b) := by rw [h]

theorem mul_any (a b : Int) (w : World) (ha : 0 ≤ a ∧ a ≤ 255) (hb : 0 ≤ b ∧ b ≤ 255) :
    Calls Try.prog 29 #[.int .u8 a, .int .u8 b] w fun e w' => e = .returned (.int .u8 (mulI a b)) ∧ w' = w := by
  have hp := prod_bd ha hb
  obtain ⟨a0, a1⟩ := ha
  obtain ⟨b0, b1⟩ := hb
  obtain ⟨p0, p1⟩ := hp
  go_enter Try.func29, Try.ntmps29
  go_wp2
  go_ret
  exact ⟨rfl, rfl⟩

theorem refMul_any (a b : Int) (w : World) (ha : 0 ≤ a ∧ a ≤ 255) (hb : 0 ≤ b ∧ b ≤ 255) :
    Calls Try.prog 30 #[.int .u8 a, .int .u8 b] w fun e w' => e = .returned (.int .u8 (mulI a b)) ∧ w' = w := by
  have hp := prod_bd ha hb
  have HR : Hid (rnd (a * b) = if 255 < 2 * (a * b - 255 * (a * b / 255)) then a * b / 255 + 1 else a * b / 255) := rnd_ref hp
  obtain ⟨a0, a1⟩ := ha
  obtain ⟨b0, b1⟩ := hb
  obtain ⟨p0, p1⟩ := hp
  go_enter Try.func30, Try.ntmps30
  go_wp2
  · go_ret
    exact ⟨ret_int (by unfold mulI; rw [HR.out, if_pos (by assumption)]), rfl⟩
  · go_ret
    exact ⟨ret_int (by unfold mulI; rw [HR.out, if_neg (by omega)]), rfl⟩

theorem cut_any (n : Int) (w : World) (h : -9223372036854775808 ≤ n ∧ n ≤ 9223372036854775807) :
    Calls Try.prog 20 #[.int .i64 n] w fun e w' => e = .returned (.int .u8 (cutI n)) ∧ w' = w := by
  obtain ⟨h0, h1⟩ := h
  by_cases c1 : n < 0
  · go_enter Try.func20, Try.ntmps20
    go_wp2
    go_ret
    exact ⟨ret_int (by unfold cutI; rw [if_pos c1]), rfl⟩
  · by_cases c2 : 255 < n
    · go_enter Try.func20, Try.ntmps20
      go_wp2
      go_ret
      exact ⟨ret_int (by unfold cutI; rw [if_neg (by omega), if_pos (by omega)]), rfl⟩
    · go_enter Try.func20, Try.ntmps20
      go_wp2
      go_ret
      exact ⟨ret_int (by unfold cutI; rw [if_neg (by omega), if_neg (by omega)]), rfl⟩

theorem refCut_any (n : Int) (w : World) (h : -9223372036854775808 ≤ n ∧ n ≤ 9223372036854775807) :
    Calls Try.prog 23 #[.int .i64 n] w fun e w' => e = .returned (.int .u8 (cutI n)) ∧ w' = w := by
  obtain ⟨h0, h1⟩ := h
  by_cases c1 : n < 0
  · go_enter Try.func23, Try.ntmps23
    go_wp2
    go_ret
    exact ⟨ret_int (by unfold cutI; rw [if_pos c1]), rfl⟩
  · by_cases c2 : 255 < n
    · go_enter Try.func23, Try.ntmps23
      go_wp2
      go_ret
      exact ⟨ret_int (by unfold cutI; rw [if_neg (by omega), if_pos (by omega)]), rfl⟩
    · go_enter Try.func23, Try.ntmps23
      go_wp2
      go_ret
      exact ⟨ret_int (by unfold cutI; rw [if_neg (by omega), if_neg (by omega)]), rfl⟩

theorem quo_hi {c a : Int} (hc : c ≤ 255) (ha : 0 < a) : (510 * c + a) / (2 * a) ≤ 65536 := by
  have := Int.ediv_lt_of_lt_mul (a := 510 * c + a) (b := 65537) (c := 2 * a) (by omega) (by omega); omega

end Go.Proofs.Ytcihemjnanobgaa
