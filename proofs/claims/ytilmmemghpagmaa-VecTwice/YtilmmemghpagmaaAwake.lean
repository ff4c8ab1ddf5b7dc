/- The document's To and From, which numbers are a picture's, and the fixed answers (awake), as contracts. -/
import Derived.Test.YtilmmemghpagmaaMore
namespace Go.Proofs.Ytilmmemghpagmaa
open Num Go.RowKit
set_option linter.unusedVariables false

theorem quart (k : Int) : k % 4 = 0 ∨ k % 4 = 1 ∨ k % 4 = 2 ∨ k % 4 = 3 := by omega

theorem to_0 {a b k u v : Int} (hk : k % 4 = 0) (ha : 1 ≤ a) (hb : 1 ≤ b) : toX a b k u v = u ∧ toY a b k u v = v := by
  have e1 : tx k u v = u := by unfold tx; simp [hk]
  have e2 : ty k u v = v := by unfold ty; simp [hk]
  have e3 : tx k (a - 1) (b - 1) = a - 1 := by unfold tx; simp [hk]
  have e4 : ty k (a - 1) (b - 1) = b - 1 := by unfold ty; simp [hk]
  unfold toX toY mn
  rw [e1, e2, e3, e4]
  constructor <;> split <;> omega
theorem from_0 {a b k u v : Int} (hk : k % 4 = 0) (ha : 1 ≤ a) (hb : 1 ≤ b) : fromX a b k u v = u ∧ fromY a b k u v = v := by
  have hl : -k % 4 = 0 := by omega
  have e3 : mn (tx k (a - 1) (b - 1)) = 0 := by unfold mn tx; simp [hk]; try omega
  have e4 : mn (ty k (a - 1) (b - 1)) = 0 := by unfold mn ty; simp [hk]; try omega
  unfold fromX fromY
  rw [e3, e4]
  unfold tx ty
  simp [hl]
  try omega
theorem to_1 {a b k u v : Int} (hk : k % 4 = 1) (ha : 1 ≤ a) (hb : 1 ≤ b) : toX a b k u v = b - 1 - v ∧ toY a b k u v = u := by
  have e1 : tx k u v = -v := by unfold tx; simp [hk]
  have e2 : ty k u v = u := by unfold ty; simp [hk]
  have e3 : tx k (a - 1) (b - 1) = -(b - 1) := by unfold tx; simp [hk]
  have e4 : ty k (a - 1) (b - 1) = a - 1 := by unfold ty; simp [hk]
  unfold toX toY mn
  rw [e1, e2, e3, e4]
  constructor <;> split <;> omega
theorem from_1 {a b k u v : Int} (hk : k % 4 = 1) (ha : 1 ≤ a) (hb : 1 ≤ b) : fromX a b k u v = v ∧ fromY a b k u v = b - 1 - u := by
  have hl : -k % 4 = 3 := by omega
  have e3 : mn (tx k (a - 1) (b - 1)) = -(b - 1) := by unfold mn tx; simp [hk]; try omega
  have e4 : mn (ty k (a - 1) (b - 1)) = 0 := by unfold mn ty; simp [hk]; try omega
  unfold fromX fromY
  rw [e3, e4]
  unfold tx ty
  simp [hl]
  try omega
theorem to_2 {a b k u v : Int} (hk : k % 4 = 2) (ha : 1 ≤ a) (hb : 1 ≤ b) : toX a b k u v = a - 1 - u ∧ toY a b k u v = b - 1 - v := by
  have e1 : tx k u v = -u := by unfold tx; simp [hk]
  have e2 : ty k u v = -v := by unfold ty; simp [hk]
  have e3 : tx k (a - 1) (b - 1) = -(a - 1) := by unfold tx; simp [hk]
  have e4 : ty k (a - 1) (b - 1) = -(b - 1) := by unfold ty; simp [hk]
  unfold toX toY mn
  rw [e1, e2, e3, e4]
  constructor <;> split <;> omega
theorem from_2 {a b k u v : Int} (hk : k % 4 = 2) (ha : 1 ≤ a) (hb : 1 ≤ b) : fromX a b k u v = a - 1 - u ∧ fromY a b k u v = b - 1 - v := by
  have hl : -k % 4 = 2 := by omega
  have e3 : mn (tx k (a - 1) (b - 1)) = -(a - 1) := by unfold mn tx; simp [hk]; try omega
  have e4 : mn (ty k (a - 1) (b - 1)) = -(b - 1) := by unfold mn ty; simp [hk]; try omega
  unfold fromX fromY
  rw [e3, e4]
  unfold tx ty
  simp [hl]
  try omega
theorem to_3 {a b k u v : Int} (hk : k % 4 = 3) (ha : 1 ≤ a) (hb : 1 ≤ b) : toX a b k u v = v ∧ toY a b k u v = a - 1 - u := by
  have e1 : tx k u v = v := by unfold tx; simp [hk]
  have e2 : ty k u v = -u := by unfold ty; simp [hk]
  have e3 : tx k (a - 1) (b - 1) = b - 1 := by unfold tx; simp [hk]
  have e4 : ty k (a - 1) (b - 1) = -(a - 1) := by unfold ty; simp [hk]
  unfold toX toY mn
  rw [e1, e2, e3, e4]
  constructor <;> split <;> omega
theorem from_3 {a b k u v : Int} (hk : k % 4 = 3) (ha : 1 ≤ a) (hb : 1 ≤ b) : fromX a b k u v = a - 1 - v ∧ fromY a b k u v = u := by
  have hl : -k % 4 = 1 := by omega
  have e3 : mn (tx k (a - 1) (b - 1)) = 0 := by unfold mn tx; simp [hk]; try omega
  have e4 : mn (ty k (a - 1) (b - 1)) = -(a - 1) := by unfold mn ty; simp [hk]; try omega
  unfold fromX fromY
  rw [e3, e4]
  unfold tx ty
  simp [hl]
  try omega

theorem refTo_any (a b k u v : Int) (w : World) (ha : 1 ≤ a ∧ a ≤ 1048576) (hb : 1 ≤ b ∧ b ≤ 1048576) (hu : -1048576 ≤ u ∧ u ≤ 1048576) (hv : -1048576 ≤ v ∧ v ≤ 1048576) :
    Calls Try.prog 18 #[.int .i64 a, .int .i64 b, .int .i64 k, .int .i64 u, .int .i64 v] w fun e w' => e = .returned (.tuple #[.int .i64 (toX a b k u v), .int .i64 (toY a b k u v)]) ∧ w' = w := by
  have Q : ∀ w, Calls Try.prog 21 #[.int .i64 k] w fun e w' => e = .returned (.int .i64 (k % 4)) ∧ w' = w := quarters_any k
  obtain ⟨a0, a1⟩ := ha
  obtain ⟨b0, b1⟩ := hb
  obtain ⟨u0, u1⟩ := hu
  obtain ⟨v0, v1⟩ := hv
  rcases quart k with hk | hk | hk | hk
  · rw [(to_0 hk a0 b0).1, (to_0 hk a0 b0).2]
    rw [hk] at Q
    clear hk
    go_enter Try.func18, Try.ntmps18
    go_wp2_with (go_at_call 21; refine (Q _).mono ?_; rintro e w' ⟨rfl, rfl⟩)
    refine wp_loop_rounds 1 ?_
    rw [rounds_succ]
    go_wp2
    simp [bodyPost, results, Try.results18, go_sem]
  · rw [(to_1 hk a0 b0).1, (to_1 hk a0 b0).2]
    rw [hk] at Q
    clear hk
    go_enter Try.func18, Try.ntmps18
    go_wp2_with (go_at_call 21; refine (Q _).mono ?_; rintro e w' ⟨rfl, rfl⟩)
    refine wp_loop_rounds 2 ?_
    rw [rounds_succ]
    go_wp2
    rw [rounds_succ]
    go_wp2
    simp [bodyPost, results, Try.results18, go_sem]
  · rw [(to_2 hk a0 b0).1, (to_2 hk a0 b0).2]
    rw [hk] at Q
    clear hk
    go_enter Try.func18, Try.ntmps18
    go_wp2_with (go_at_call 21; refine (Q _).mono ?_; rintro e w' ⟨rfl, rfl⟩)
    refine wp_loop_rounds 3 ?_
    rw [rounds_succ]
    go_wp2
    rw [rounds_succ]
    go_wp2
    rw [rounds_succ]
    go_wp2
    simp [bodyPost, results, Try.results18, go_sem]
  · rw [(to_3 hk a0 b0).1, (to_3 hk a0 b0).2]
    rw [hk] at Q
    clear hk
    go_enter Try.func18, Try.ntmps18
    go_wp2_with (go_at_call 21; refine (Q _).mono ?_; rintro e w' ⟨rfl, rfl⟩)
    refine wp_loop_rounds 4 ?_
    rw [rounds_succ]
    go_wp2
    rw [rounds_succ]
    go_wp2
    rw [rounds_succ]
    go_wp2
    rw [rounds_succ]
    go_wp2
    simp [bodyPost, results, Try.results18, go_sem]
    omega

theorem refFrom_any (a b k u v : Int) (w : World) (ha : 1 ≤ a ∧ a ≤ 1048576) (hb : 1 ≤ b ∧ b ≤ 1048576) (hu : -1048576 ≤ u ∧ u ≤ 1048576) (hv : -1048576 ≤ v ∧ v ≤ 1048576) :
    Calls Try.prog 20 #[.int .i64 a, .int .i64 b, .int .i64 k, .int .i64 u, .int .i64 v] w fun e w' => e = .returned (.tuple #[.int .i64 (fromX a b k u v), .int .i64 (fromY a b k u v)]) ∧ w' = w := by
  have Q : ∀ w, Calls Try.prog 21 #[.int .i64 k] w fun e w' => e = .returned (.int .i64 (k % 4)) ∧ w' = w := quarters_any k
  have S : ∀ w, Calls Try.prog 16 #[.int .i64 a, .int .i64 b, .int .i64 k] w fun e w' => e = .returned (.tuple #[.int .i64 (szX a b k), .int .i64 (szY a b k)]) ∧ w' = w := refSize_any a b k
  obtain ⟨a0, a1⟩ := ha
  obtain ⟨b0, b1⟩ := hb
  obtain ⟨u0, u1⟩ := hu
  obtain ⟨v0, v1⟩ := hv
  rcases quart k with hk | hk | hk | hk
  · rw [(from_0 hk a0 b0).1, (from_0 hk a0 b0).2]
    rw [hk] at Q
    rw [show szX a b k = a by unfold szX; rw [if_neg (by omega)], show szY a b k = b by unfold szY; rw [if_neg (by omega)]] at S
    clear hk
    go_enter Try.func20, Try.ntmps20
    go_wp2_with (first | (go_at_call 21; refine (Q _).mono ?_; rintro e w' ⟨rfl, rfl⟩) | (go_at_call 16; refine (S _).mono ?_; rintro e w' ⟨rfl, rfl⟩))
    refine wp_loop_rounds 1 ?_
    rw [rounds_succ]
    go_wp2
    simp [bodyPost, results, Try.results20, go_sem]
  · rw [(from_1 hk a0 b0).1, (from_1 hk a0 b0).2]
    rw [hk] at Q
    rw [show szX a b k = b by unfold szX; rw [if_pos (by omega)], show szY a b k = a by unfold szY; rw [if_pos (by omega)]] at S
    clear hk
    go_enter Try.func20, Try.ntmps20
    go_wp2_with (first | (go_at_call 21; refine (Q _).mono ?_; rintro e w' ⟨rfl, rfl⟩) | (go_at_call 16; refine (S _).mono ?_; rintro e w' ⟨rfl, rfl⟩))
    refine wp_loop_rounds 2 ?_
    rw [rounds_succ]
    go_wp2
    rw [rounds_succ]
    go_wp2
    simp [bodyPost, results, Try.results20, go_sem]
  · rw [(from_2 hk a0 b0).1, (from_2 hk a0 b0).2]
    rw [hk] at Q
    rw [show szX a b k = a by unfold szX; rw [if_neg (by omega)], show szY a b k = b by unfold szY; rw [if_neg (by omega)]] at S
    clear hk
    go_enter Try.func20, Try.ntmps20
    go_wp2_with (first | (go_at_call 21; refine (Q _).mono ?_; rintro e w' ⟨rfl, rfl⟩) | (go_at_call 16; refine (S _).mono ?_; rintro e w' ⟨rfl, rfl⟩))
    refine wp_loop_rounds 3 ?_
    rw [rounds_succ]
    go_wp2
    rw [rounds_succ]
    go_wp2
    rw [rounds_succ]
    go_wp2
    simp [bodyPost, results, Try.results20, go_sem]
  · rw [(from_3 hk a0 b0).1, (from_3 hk a0 b0).2]
    rw [hk] at Q
    rw [show szX a b k = b by unfold szX; rw [if_pos (by omega)], show szY a b k = a by unfold szY; rw [if_pos (by omega)]] at S
    clear hk
    go_enter Try.func20, Try.ntmps20
    go_wp2_with (first | (go_at_call 21; refine (Q _).mono ?_; rintro e w' ⟨rfl, rfl⟩) | (go_at_call 16; refine (S _).mono ?_; rintro e w' ⟨rfl, rfl⟩))
    refine wp_loop_rounds 4 ?_
    rw [rounds_succ]
    go_wp2
    rw [rounds_succ]
    go_wp2
    rw [rounds_succ]
    go_wp2
    rw [rounds_succ]
    go_wp2
    simp [bodyPost, results, Try.results20, go_sem]
    omega

def pictB (a b u v : Int) : Bool := decide (1 ≤ a ∧ a ≤ 1048576 ∧ 1 ≤ b ∧ b ≤ 1048576 ∧ -1048576 ≤ u ∧ u ≤ 1048576 ∧ -1048576 ≤ v ∧ v ≤ 1048576)
theorem picture_any (a b u v : Int) (w : World) :
    Calls Try.prog 14 #[.int .i64 a, .int .i64 b, .int .i64 u, .int .i64 v] w fun e w' => e = .returned (.bool (pictB a b u v)) ∧ w' = w := by
  go_enter Try.func14, Try.ntmps14
  go_wp2_with (go_at_call 8; refine (near_any _ _ _ (by omega)).mono ?_; rintro e w' ⟨rfl, rfl⟩)
  all_goals
    go_ret
    refine ⟨ret_bool ?_, rfl⟩
    unfold pictB
    rw [Bool.eq_iff_iff]
    simp [nearB] at *
    try omega

theorem awake_any (w : World) : Calls Try.prog 9 #[] w fun e w' => e = .returned (.bool true) ∧ w' = w := by
  have t1 : toX 2 3 1 0 0 = 2 := by decide
  have t2 : toY 2 3 1 0 0 = 0 := by decide
  have z1 : szX 2 3 1 = 3 := by decide
  have z2 : szY 2 3 1 = 2 := by decide
  have x1 : tx 1 3 1 = -1 := by decide
  have x2 : ty 1 3 1 = 3 := by decide
  have s1 : Small 3 := by unfold Small; decide
  have s2 : Small 1 := by unfold Small; decide
  have s3 : Small (-1) := by unfold Small; decide
  have o1 : FloatKind.f64.format.order (F (-1)) (F (-1)) = some .eq := order_is (Is.own _) (Is.own _) s3 s3
  have o2 : FloatKind.f64.format.order (F 3) (F 3) = some .eq := order_is (Is.own _) (Is.own _) s1 s1
  go_enter Try.func9, Try.ntmps9
  go_wp2_with (first | (go_at_call 17; refine (to_any _ _ _ _ _ _ (by decide) (by decide) (by decide) (by decide)).mono ?_; rintro e w' ⟨rfl, rfl⟩) | (go_at_call 15; refine (size_any _ _ _ _ (by decide) (by decide)).mono ?_; rintro e w' ⟨rfl, rfl⟩) | (go_at_call 11; refine (of_any _ _ _).mono ?_; rintro e w' ⟨rfl, rfl⟩) | (go_at_call 12; refine (turn_any _ _ _ _ s1 s2).mono ?_; rintro e w' ⟨rfl, rfl⟩))
  go_ret
  exact ⟨rfl, rfl⟩
end Go.Proofs.Ytilmmemghpagmaa
