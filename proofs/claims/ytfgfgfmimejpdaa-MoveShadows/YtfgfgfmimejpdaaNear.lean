/- The document's nearest number, and one pixel more: contracts. -/
import Derived.Test.YtfgfgfmimejpdaaBoxB
import Derived.Test.YtfgfgfmimejpdaaWith
namespace Go.Proofs.Ytfgfgfmimejpdaa
open Num Go.RowKit
set_option linter.unusedVariables false
set_option linter.unusedSimpArgs false
attribute [local go_sem ↓] run_app
attribute [local go_sem] lenV_slice

set_option maxHeartbeats 1000000 in
theorem nearest_any (s : Int) (r : Nat) (w : World) (hs : 0 ≤ s) (hs2 : s ≤ 255 * (2 * (r : Int) + 1)) (hr : r ≤ 255) :
    Calls Try.prog 91 #[.int .i64 s, .int .i64 (2 * (r : Int) + 1)] w fun e w' => e = .returned (.int .u8 (meanI s (r : Int))) ∧ w' = w := by
  have hM := near_mean (s := s) (r := (r : Int)) (by omega)
  have HB := hid (mean_bd (s := s) (r := (r : Int)) (m := 255) (by omega) hs hs2)
  have hq0 : 0 ≤ s / (2 * (r : Int) + 1) := Int.ediv_nonneg hs (by omega)
  have hq1 : s / (2 * (r : Int) + 1) ≤ 255 := by
    have : s / (2 * (r : Int) + 1) < 256 := by
      rw [Int.ediv_lt_iff_lt_mul (by omega)]
      omega
    omega
  have m0 : 0 ≤ s / (2 * (r : Int) + 1) * (2 * (r : Int) + 1) := Int.mul_nonneg hq0 (by omega)
  have m1 : s / (2 * (r : Int) + 1) * (2 * (r : Int) + 1) ≤ s := Int.ediv_mul_le _ (by omega)
  have hn0 : 0 < 2 * (r : Int) + 1 := by omega
  unfold nearI at hM
  obtain ⟨q, hq⟩ : ∃ q, s / (2 * (r : Int) + 1) = q := ⟨_, rfl⟩
  rw [hq] at hM hq0 hq1 m0 m1
  obtain ⟨t, ht⟩ : ∃ t, q * (2 * (r : Int) + 1) = t := ⟨_, rfl⟩
  rw [ht] at hM m0 m1
  by_cases hc : 2 * (r : Int) + 1 < 2 * (s - t)
  · rw [if_pos hc] at hM
    have w1 : IntKind.u8.wrap (q + 1) = q + 1 := by have := HB.out; rw [← hM] at this; exact w8 this
    have HE := hid hM
    clear hM
    go_enter Try.func91, Try.ntmps91
    go_wp2
    go_ret
    exact ⟨Rc.ret_int HE.out, rfl⟩
  · rw [if_neg hc] at hM
    have w1 : IntKind.u8.wrap q = q := by have := HB.out; rw [← hM] at this; exact w8 this
    have HE := hid hM
    clear hM
    go_enter Try.func91, Try.ntmps91
    go_wp2
    go_ret
    exact ⟨Rc.ret_int HE.out, rfl⟩

end Go.Proofs.Ytfgfgfmimejpdaa
