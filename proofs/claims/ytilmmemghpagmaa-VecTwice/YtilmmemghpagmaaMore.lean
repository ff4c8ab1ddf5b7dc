/- From and Size of package vec, and the document's functions, as contracts. -/
import Derived.Test.YtilmmemghpagmaaWalks
namespace Go.Proofs.Ytilmmemghpagmaa
open Num Go.RowKit
set_option linter.unusedVariables false

theorem tx_mod {k l a b : Int} (h : k % 4 = l % 4) : tx k a b = tx l a b := by unfold tx; rw [h]
theorem ty_mod {k l a b : Int} (h : k % 4 = l % 4) : ty k a b = ty l a b := by unfold ty; rw [h]

theorem from_any (a b k u v : Int) (w : World) (hk : -9223372036854775808 ≤ k ∧ k ≤ 9223372036854775807) (ha : 1 ≤ a ∧ a ≤ 1048576) (hb : 1 ≤ b ∧ b ≤ 1048576) (hu : -4398046511104 ≤ u ∧ u ≤ 4398046511104) (hv : -4398046511104 ≤ v ∧ v ≤ 4398046511104) :
    Calls Try.prog 19 #[.int .i64 a, .int .i64 b, .int .i64 k, .int .i64 u, .int .i64 v] w fun e w' => e = .returned (.tuple #[.int .i64 (fromX a b k u v), .int .i64 (fromY a b k u v)]) ∧ w' = w := by
  have t1 := tx_bd (k := k) (a := a - 1) (b := b - 1) (M := 1048576) (by omega) (by omega)
  have t2 := ty_bd (k := k) (a := a - 1) (b := b - 1) (M := 1048576) (by omega) (by omega)
  have n1 := mn_bd t1
  have n2 := mn_bd t2
  have p1 : Small (u + mn (tx k (a - 1) (b - 1))) := small_of (by omega)
  have p2 : Small (v + mn (ty k (a - 1) (b - 1))) := small_of (by omega)
  have q1 : Small (fromX a b k u v) := by have := tx_bd (k := -k) (M := 8796093022208) (a := u + mn (tx k (a - 1) (b - 1))) (b := v + mn (ty k (a - 1) (b - 1))) (by omega) (by omega); exact small_of this
  have q2 : Small (fromY a b k u v) := by have := ty_bd (k := -k) (M := 8796093022208) (a := u + mn (tx k (a - 1) (b - 1))) (b := v + mn (ty k (a - 1) (b - 1))) (by omega) (by omega); exact small_of this
  have c := csum_is (c := mn (tx k (a - 1) (b - 1))) (d := mn (ty k (a - 1) (b - 1))) (Is.own u) (Is.own v) (small_of (by omega)) (small_of (by omega)) (small_of (by omega)) (small_of (by omega)) p1 p2
  have r := fun t w => run_complex_sum (P := Try.prog) w .add (Or.inl rfl) t .f64 _ _ _ _ _ _ c
  have T : ∀ (l : Int) (w : World), l % 4 = (-k) % 4 → Calls Try.prog 12 #[.complex .f64 (F (u + mn (tx k (a - 1) (b - 1)))) (F (v + mn (ty k (a - 1) (b - 1)))), .int .i64 l] w fun e w' => e = .returned (.complex .f64 (F (fromX a b k u v)) (F (fromY a b k u v))) ∧ w' = w := by
    intro l w hl
    have := turn_any _ _ l w p1 p2
    rw [tx_mod hl, ty_mod hl] at this
    exact this
  have hw : wrap64 (-k) % 4 = (-k) % 4 := by unfold wrap64; omega
  obtain ⟨k0, k1⟩ := hk
  clear c t1 t2 n1 n2 hu hv
  go_enter Try.func19, Try.ntmps19
  go_wp2_with (first | (go_at_call 11; refine (of_any _ _ _).mono ?_; rintro e w' ⟨rfl, rfl⟩) | (go_at_call 12; refine (T _ _ hw).mono ?_; rintro e w' ⟨rfl, rfl⟩) | (go_at_call 22; refine (least_any _ _ _ _ ‹_› ‹_›).mono ?_; rintro e w' ⟨rfl, rfl⟩) | (go_at_call 10; refine (parts_any _ _ _ ‹_› ‹_›).mono ?_; rintro e w' ⟨rfl, rfl⟩))
  simp [bodyPost, results, Try.results19, go_sem]

theorem abs_tx (a b k : Int) (ha : 1 ≤ a) (hb : 1 ≤ b) : (if tx k a b < -tx k a b then -tx k a b else tx k a b) = szX a b k := by
  have hk : k % 4 = 0 ∨ k % 4 = 1 ∨ k % 4 = 2 ∨ k % 4 = 3 := by omega
  unfold szX
  rcases hk with hk | hk | hk | hk
  · rw [show tx k a b = a by unfold tx; simp [hk], if_neg (by omega), if_neg (by omega)]
  · rw [show tx k a b = -b by unfold tx; simp [hk], if_pos (by omega), if_pos (by omega)]; omega
  · rw [show tx k a b = -a by unfold tx; simp [hk], if_pos (by omega), if_neg (by omega)]; omega
  · rw [show tx k a b = b by unfold tx; simp [hk], if_neg (by omega), if_pos (by omega)]
theorem abs_ty (a b k : Int) (ha : 1 ≤ a) (hb : 1 ≤ b) : (if ty k a b < -ty k a b then -ty k a b else ty k a b) = szY a b k := by
  have hk : k % 4 = 0 ∨ k % 4 = 1 ∨ k % 4 = 2 ∨ k % 4 = 3 := by omega
  unfold szY
  rcases hk with hk | hk | hk | hk
  · rw [show ty k a b = b by unfold ty; simp [hk], if_neg (by omega), if_neg (by omega)]
  · rw [show ty k a b = a by unfold ty; simp [hk], if_neg (by omega), if_pos (by omega)]
  · rw [show ty k a b = -b by unfold ty; simp [hk], if_pos (by omega), if_neg (by omega)]; omega
  · rw [show ty k a b = -a by unfold ty; simp [hk], if_pos (by omega), if_pos (by omega)]; omega

theorem size_any (a b k : Int) (w : World) (ha : 1 ≤ a ∧ a ≤ 1048576) (hb : 1 ≤ b ∧ b ≤ 1048576) :
    Calls Try.prog 15 #[.int .i64 a, .int .i64 b, .int .i64 k] w fun e w' => e = .returned (.tuple #[.int .i64 (szX a b k), .int .i64 (szY a b k)]) ∧ w' = w := by
  have t1 := tx_bd (k := k) (a := a) (b := b) (M := 1048576) (by omega) (by omega)
  have t2 := ty_bd (k := k) (a := a) (b := b) (M := 1048576) (by omega) (by omega)
  have s1 : Small a := small_of (by omega)
  have s2 : Small b := small_of (by omega)
  have s3 : Small (tx k a b) := small_of (by omega)
  have s4 : Small (ty k a b) := small_of (by omega)
  have X : Hid _ := abs_tx a b k (by omega) (by omega)
  have Y : Hid _ := abs_ty a b k (by omega) (by omega)
  obtain ⟨x0, x1⟩ := t1
  obtain ⟨y0, y1⟩ := t2
  go_enter Try.func15, Try.ntmps15
  go_wp2_with (first | (go_at_call 11; refine (of_any _ _ _).mono ?_; rintro e w' ⟨rfl, rfl⟩) | (go_at_call 12; refine (turn_any _ _ _ _ ‹_› ‹_›).mono ?_; rintro e w' ⟨rfl, rfl⟩) | (go_at_call 10; refine (parts_any _ _ _ ‹_› ‹_›).mono ?_; rintro e w' ⟨rfl, rfl⟩))
  all_goals
    simp [bodyPost, results, Try.results15, go_sem]
    rw [← X.out, ← Y.out]
    constructor <;> (first | rw [if_pos (by omega)] | rw [if_neg (by omega)])

theorem tm4 (k : Int) : (0 ≤ k → k.tmod 4 = k % 4) ∧ (k < 0 → k.tmod 4 = -((-k) % 4)) := by
  constructor
  · intro h; exact Int.tmod_eq_emod_of_nonneg h
  · intro h
    have : k = -(-k) := by omega
    rw [this, Int.neg_tmod, Int.tmod_eq_emod_of_nonneg (by omega), Int.neg_neg]

theorem quarters_any (k : Int) (w : World) : Calls Try.prog 21 #[.int .i64 k] w fun e w' => e = .returned (.int .i64 (k % 4)) ∧ w' = w := by
  by_cases c : k.tmod 4 < 0
  · have h0 : k < 0 := by
      have := (tm4 k).1
      omega
    have h1 := (tm4 k).2 h0
    go_enter Try.func21, Try.ntmps21
    go_wp2
    go_ret
    exact ⟨ret_int (by omega), rfl⟩
  · have h1 := tm4 k
    go_enter Try.func21, Try.ntmps21
    go_wp2
    go_ret
    exact ⟨ret_int (by omega), rfl⟩

theorem refTurn_any (a b k : Int) (w : World) (ha : -1099511627776 ≤ a ∧ a ≤ 1099511627776) (hb : -1099511627776 ≤ b ∧ b ≤ 1099511627776) :
    Calls Try.prog 13 #[.int .i64 a, .int .i64 b, .int .i64 k] w fun e w' => e = .returned (.tuple #[.int .i64 (tx k a b), .int .i64 (ty k a b)]) ∧ w' = w := by
  have Q : ∀ w, Calls Try.prog 21 #[.int .i64 k] w fun e w' => e = .returned (.int .i64 (k % 4)) ∧ w' = w := quarters_any k
  obtain ⟨a0, a1⟩ := ha
  obtain ⟨b0, b1⟩ := hb
  have hk : k % 4 = 0 ∨ k % 4 = 1 ∨ k % 4 = 2 ∨ k % 4 = 3 := by omega
  rcases hk with hk | hk | hk | hk
  · rw [show tx k a b = a by unfold tx; simp [hk], show ty k a b = b by unfold ty; simp [hk]]
    rw [hk] at Q
    clear hk
    go_enter Try.func13, Try.ntmps13
    go_wp2_with (go_at_call 21; refine (Q _).mono ?_; rintro e w' ⟨rfl, rfl⟩)
    refine wp_loop_rounds 1 ?_
    rw [rounds_succ]
    go_wp2
    simp [bodyPost, results, Try.results13, go_sem]
  · rw [show tx k a b = -b by unfold tx; simp [hk], show ty k a b = a by unfold ty; simp [hk]]
    rw [hk] at Q
    clear hk
    go_enter Try.func13, Try.ntmps13
    go_wp2_with (go_at_call 21; refine (Q _).mono ?_; rintro e w' ⟨rfl, rfl⟩)
    refine wp_loop_rounds 2 ?_
    rw [rounds_succ]
    go_wp2
    rw [rounds_succ]
    go_wp2
    simp [bodyPost, results, Try.results13, go_sem]
  · rw [show tx k a b = -a by unfold tx; simp [hk], show ty k a b = -b by unfold ty; simp [hk]]
    rw [hk] at Q
    clear hk
    go_enter Try.func13, Try.ntmps13
    go_wp2_with (go_at_call 21; refine (Q _).mono ?_; rintro e w' ⟨rfl, rfl⟩)
    refine wp_loop_rounds 3 ?_
    rw [rounds_succ]
    go_wp2
    rw [rounds_succ]
    go_wp2
    rw [rounds_succ]
    go_wp2
    simp [bodyPost, results, Try.results13, go_sem]
  · rw [show tx k a b = b by unfold tx; simp [hk], show ty k a b = -a by unfold ty; simp [hk]]
    rw [hk] at Q
    clear hk
    go_enter Try.func13, Try.ntmps13
    go_wp2_with (go_at_call 21; refine (Q _).mono ?_; rintro e w' ⟨rfl, rfl⟩)
    refine wp_loop_rounds 4 ?_
    rw [rounds_succ]
    go_wp2
    rw [rounds_succ]
    go_wp2
    rw [rounds_succ]
    go_wp2
    rw [rounds_succ]
    go_wp2
    simp [bodyPost, results, Try.results13, go_sem]

theorem refSize_any (a b k : Int) (w : World) :
    Calls Try.prog 16 #[.int .i64 a, .int .i64 b, .int .i64 k] w fun e w' => e = .returned (.tuple #[.int .i64 (szX a b k), .int .i64 (szY a b k)]) ∧ w' = w := by
  have Q : ∀ w, Calls Try.prog 21 #[.int .i64 k] w fun e w' => e = .returned (.int .i64 (k % 4)) ∧ w' = w := quarters_any k
  have E : (k % 4).tmod 2 = k % 2 := by rw [Int.tmod_eq_emod_of_nonneg (by omega)]; omega
  by_cases c : k % 2 = 1
  · rw [show szX a b k = b by unfold szX; rw [if_pos c], show szY a b k = a by unfold szY; rw [if_pos c]]
    rw [c] at E
    clear c
    go_enter Try.func16, Try.ntmps16
    go_wp2_with (go_at_call 21; refine (Q _).mono ?_; rintro e w' ⟨rfl, rfl⟩)
    simp [bodyPost, results, Try.results16, go_sem]
  · rw [show szX a b k = a by unfold szX; rw [if_neg c], show szY a b k = b by unfold szY; rw [if_neg c]]
    rw [show k % 2 = 0 by omega] at E
    clear c
    go_enter Try.func16, Try.ntmps16
    go_wp2_with (go_at_call 21; refine (Q _).mono ?_; rintro e w' ⟨rfl, rfl⟩)
    simp [bodyPost, results, Try.results16, go_sem]
end Go.Proofs.Ytilmmemghpagmaa
