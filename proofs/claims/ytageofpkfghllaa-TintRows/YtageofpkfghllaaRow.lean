/- What a row makes of plain colours, and the whole quotient downward: the contracts. -/
import Derived.Test.YtageofpkfghllaaMRight
namespace Go.Proofs.Ytageofpkfghllaa
open Num Go.RowKit
set_option linter.unusedVariables false
set_option linter.unusedSimpArgs false
attribute [local go_sem ↓] Go.wp_at_zero Go.wp_at_succ

theorem index0 (x y z u : Int) (w : World) : (Instr.index 24 (.agg #[.int .u8 x, .int .u8 y, .int .u8 z, .int .u8 u]) (.int .i64 0)).run Try.prog w = .ok (.int .u8 x) w := by
  unfold Instr.index
  simp only [Sem.run_bind, run_underlying Try.underlying24, Result.andThen_ok]
  go_simp
theorem index1 (x y z u : Int) (w : World) : (Instr.index 24 (.agg #[.int .u8 x, .int .u8 y, .int .u8 z, .int .u8 u]) (.int .i64 1)).run Try.prog w = .ok (.int .u8 y) w := by
  unfold Instr.index
  simp only [Sem.run_bind, run_underlying Try.underlying24, Result.andThen_ok]
  go_simp
theorem index2 (x y z u : Int) (w : World) : (Instr.index 24 (.agg #[.int .u8 x, .int .u8 y, .int .u8 z, .int .u8 u]) (.int .i64 2)).run Try.prog w = .ok (.int .u8 z) w := by
  unfold Instr.index
  simp only [Sem.run_bind, run_underlying Try.underlying24, Result.andThen_ok]
  go_simp
theorem index3 (x y z u : Int) (w : World) : (Instr.index 24 (.agg #[.int .u8 x, .int .u8 y, .int .u8 z, .int .u8 u]) (.int .i64 3)).run Try.prog w = .ok (.int .u8 u) w := by
  unfold Instr.index
  simp only [Sem.run_bind, run_underlying Try.underlying24, Result.andThen_ok]
  go_simp

theorem down_any (n : Int) (w : World) (h : -1000000000 ≤ n ∧ n ≤ 1000000000) :
    Calls Try.prog 23 #[.int .i64 n] w fun e w' => e = .returned (.int .i64 (n / 256)) ∧ w' = w := by
  obtain ⟨h0, h1⟩ := h
  have q0 : n.tdiv 256 = if n / 256 * 256 < n ∧ n < 0 then n / 256 + 1 else n / 256 := by
    rw [Int.tdiv_eq_ediv]
    have hs : Int.sign 256 = 1 := rfl
    by_cases h : 0 ≤ n ∨ (256 : Int) ∣ n
    · rw [if_pos h, if_neg (by omega)]; omega
    · rw [if_neg h, if_pos (by omega), hs]
  by_cases hc : n / 256 * 256 < n ∧ n < 0
  · rw [if_pos hc] at q0
    have t : n < (n / 256 + 1) * 256 := by omega
    go_enter Try.func23, Try.ntmps23
    go_wp2
    all_goals
      go_ret
      exact ⟨ret_int (by omega), rfl⟩
  · rw [if_neg hc] at q0
    have t : ¬ (n < n / 256 * 256) := by omega
    go_enter Try.func23, Try.ntmps23
    go_wp2
    all_goals
      go_ret
      exact ⟨ret_int (by omega), rfl⟩

set_option maxHeartbeats 1000000 in
theorem row_any (n c b off : Nat) (m0 m1 m2 m3 m4 r g s a : Int) (w : World) (hn : 5 ≤ n ∧ n ≤ 20)
    (h0 : w.cell? ⟨b, off, none⟩ = some (.int .i64 m0)) (h1 : w.cell? ⟨b, off + 1, none⟩ = some (.int .i64 m1)) (h2 : w.cell? ⟨b, off + 2, none⟩ = some (.int .i64 m2)) (h3 : w.cell? ⟨b, off + 3, none⟩ = some (.int .i64 m3)) (h4 : w.cell? ⟨b, off + 4, none⟩ = some (.int .i64 m4))
    (k0 : -32768 ≤ m0 ∧ m0 ≤ 32767) (k1 : -32768 ≤ m1 ∧ m1 ≤ 32767) (k2 : -32768 ≤ m2 ∧ m2 ≤ 32767) (k3 : -32768 ≤ m3 ∧ m3 ≤ 32767) (k4 : -32768 ≤ m4 ∧ m4 ≤ 32767)
    (hr : 0 ≤ r ∧ r ≤ 255) (hg : 0 ≤ g ∧ g ≤ 255) (hs : 0 ≤ s ∧ s ≤ 255) (ha : 0 ≤ a ∧ a ≤ 255) :
    Calls Try.prog 19 #[.slice (some ⟨b, off, none⟩) n c, .agg #[.int .u8 r, .int .u8 g, .int .u8 s, .int .u8 a]] w fun e w' => e = .returned (.int .u8 (rowI m0 m1 m2 m3 m4 r g s a)) ∧ Below w.heap.size w w' := by
  have p0 := prod_sm k0 hr
  have p1 := prod_sm k1 hg
  have p2 := prod_sm k2 hs
  have p3 := prod_sm k3 ha
  have hb : b < w.heap.size := World.block_lt_of_cell? w ⟨b, off, none⟩ h0
  have i0 := index0
  have i1 := index1
  have i2 := index2
  have i3 := index3
  go_enter Try.func19, Try.ntmps19
  go_wp2
  refine wp_loop_rounds 5 ?_
  rw [rounds_succ]
  go_wp2
  rw [rounds_succ]
  go_wp2
  rw [rounds_succ]
  go_wp2
  rw [rounds_succ]
  go_wp2
  rw [rounds_succ]
  go_wp2_with (go_at_call 26; refine (cut_any _ _ ⟨by omega, by omega⟩).mono ?_; rintro e w' ⟨rfl, rfl⟩)
  go_ret
  exact ⟨rfl, by go_grown⟩
end Go.Proofs.Ytageofpkfghllaa
