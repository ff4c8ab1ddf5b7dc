/- What the functions of package vec on pictures do, and the document's, as contracts. -/
import Derived.Test.YtilmmemghpagmaaTurn
namespace Go.Proofs.Ytilmmemghpagmaa
open Num Go.RowKit
set_option linter.unusedVariables false

theorem ret_bool {a b : Bool} (h : a = b) : Ending.returned (.bool a) = .returned (.bool b) := by rw [h]
theorem ret_int {k : IntKind} {a b : Int} (h : a = b) : Ending.returned (.int k a) = .returned (.int k b) := by rw [h]
theorem ret_pair {k : IntKind} {a b c d : Int} (h : a = c) (g : b = d) : Ending.returned (.tuple #[.int k a, .int k b]) = .returned (.tuple #[.int k c, .int k d]) := by rw [h, g]

def nearB (n m : Int) : Bool := decide (-m ≤ n) && decide (n ≤ m)
theorem near_any (n m : Int) (w : World) (hm : 0 ≤ m ∧ m ≤ 1099511627776) : Calls Try.prog 8 #[.int .i64 n, .int .i64 m] w fun e w' => e = .returned (.bool (nearB n m)) ∧ w' = w := by
  obtain ⟨m0, m1⟩ := hm
  go_enter Try.func8, Try.ntmps8
  go_wp2
  all_goals
    go_ret
    refine ⟨ret_bool ?_, rfl⟩
    unfold nearB
    rw [Bool.eq_iff_iff]
    simp
    try omega

def mn (a : Int) : Int := if a < 0 then a else 0
def toX (w h k u v : Int) : Int := tx k u v - mn (tx k (w - 1) (h - 1))
def toY (w h k u v : Int) : Int := ty k u v - mn (ty k (w - 1) (h - 1))
def fromX (w h k x y : Int) : Int := tx (-k) (x + mn (tx k (w - 1) (h - 1))) (y + mn (ty k (w - 1) (h - 1)))
def fromY (w h k x y : Int) : Int := ty (-k) (x + mn (tx k (w - 1) (h - 1))) (y + mn (ty k (w - 1) (h - 1)))
def szX (w h k : Int) : Int := if k % 2 = 1 then h else w
def szY (w h k : Int) : Int := if k % 2 = 1 then w else h

theorem tx_bd {k a b M : Int} (ha : -M ≤ a ∧ a ≤ M) (hb : -M ≤ b ∧ b ≤ M) : -M ≤ tx k a b ∧ tx k a b ≤ M := by
  unfold tx; split
  · omega
  · split
    · omega
    · split <;> omega
theorem ty_bd {k a b M : Int} (ha : -M ≤ a ∧ a ≤ M) (hb : -M ≤ b ∧ b ≤ M) : -M ≤ ty k a b ∧ ty k a b ≤ M := by
  unfold ty; split
  · omega
  · split
    · omega
    · split <;> omega
theorem mn_bd {a M : Int} (h : -M ≤ a ∧ a ≤ M) : -M ≤ mn a ∧ mn a ≤ 0 := by unfold mn; split <;> omega
theorem small_of {a : Int} (h : -8796093022208 ≤ a ∧ a ≤ 8796093022208) : Small a := by unfold Small; omega

theorem least_any (a b k : Int) (w : World) (ha : 1 ≤ a ∧ a ≤ 1048576) (hb : 1 ≤ b ∧ b ≤ 1048576) :
    Calls Try.prog 22 #[.int .i64 a, .int .i64 b, .int .i64 k] w fun e w' => e = .returned (.complex .f64 (F (mn (tx k (a - 1) (b - 1)))) (F (mn (ty k (a - 1) (b - 1))))) ∧ w' = w := by
  have t1 := tx_bd (k := k) (a := a - 1) (b := b - 1) (M := 1048576) (by omega) (by omega)
  have t2 := ty_bd (k := k) (a := a - 1) (b := b - 1) (M := 1048576) (by omega) (by omega)
  have s1 : Small (a - 1) := small_of (by omega)
  have s2 : Small (b - 1) := small_of (by omega)
  have m1 : ∀ ts t w, (Builtin.min_ ts t #[.float .f64 (F (tx k (a - 1) (b - 1))), .float .f64 0]).run Try.prog w = .ok (.float .f64 (F (mn (tx k (a - 1) (b - 1))))) w := fun ts t w => run_min_F w ts t (small_of (by omega))
  have m2 : ∀ ts t w, (Builtin.min_ ts t #[.float .f64 (F (ty k (a - 1) (b - 1))), .float .f64 0]).run Try.prog w = .ok (.float .f64 (F (mn (ty k (a - 1) (b - 1))))) w := fun ts t w => run_min_F w ts t (small_of (by omega))
  obtain ⟨a0, a1⟩ := ha
  obtain ⟨b0, b1⟩ := hb
  go_enter Try.func22, Try.ntmps22
  go_wp2_with (first | (go_at_call 11; refine (of_any _ _ _).mono ?_; rintro e w' ⟨rfl, rfl⟩) | (go_at_call 12; refine (turn_any _ _ _ _ ‹_› ‹_›).mono ?_; rintro e w' ⟨rfl, rfl⟩))
  go_ret
  exact ⟨rfl, rfl⟩

theorem to_any (a b k u v : Int) (w : World) (ha : 1 ≤ a ∧ a ≤ 1048576) (hb : 1 ≤ b ∧ b ≤ 1048576) (hu : -4398046511104 ≤ u ∧ u ≤ 4398046511104) (hv : -4398046511104 ≤ v ∧ v ≤ 4398046511104) :
    Calls Try.prog 17 #[.int .i64 a, .int .i64 b, .int .i64 k, .int .i64 u, .int .i64 v] w fun e w' => e = .returned (.tuple #[.int .i64 (toX a b k u v), .int .i64 (toY a b k u v)]) ∧ w' = w := by
  have t1 := tx_bd (k := k) (a := a - 1) (b := b - 1) (M := 1048576) (by omega) (by omega)
  have t2 := ty_bd (k := k) (a := a - 1) (b := b - 1) (M := 1048576) (by omega) (by omega)
  have n1 := mn_bd t1
  have n2 := mn_bd t2
  have t3 := tx_bd (k := k) hu hv
  have t4 := ty_bd (k := k) hu hv
  have s1 : Small u := small_of (by omega)
  have s2 : Small v := small_of (by omega)
  have p1 : Small (toX a b k u v) := small_of (by unfold toX; omega)
  have p2 : Small (toY a b k u v) := small_of (by unfold toY; omega)
  have c := csub_is (a := tx k u v) (b := ty k u v) (c := mn (tx k (a - 1) (b - 1))) (d := mn (ty k (a - 1) (b - 1))) (small_of (by omega)) (small_of (by omega)) (small_of (by omega)) (small_of (by omega)) p1 p2
  have r : ∀ t w, (binOp .sub t (.complex .f64 (F (tx k u v)) (F (ty k u v))) (.complex .f64 (F (mn (tx k (a - 1) (b - 1)))) (F (mn (ty k (a - 1) (b - 1)))))).run Try.prog w = .ok (.complex .f64 (F (toX a b k u v)) (F (toY a b k u v))) w := fun t w => run_complex_sum (P := Try.prog) w .sub (Or.inr rfl) t .f64 _ _ _ _ _ _ c
  clear c t1 t2 n1 n2 t3 t4 hu hv
  go_enter Try.func17, Try.ntmps17
  go_wp2_with (first | (go_at_call 11; refine (of_any _ _ _).mono ?_; rintro e w' ⟨rfl, rfl⟩) | (go_at_call 12; refine (turn_any _ _ _ _ ‹_› ‹_›).mono ?_; rintro e w' ⟨rfl, rfl⟩) | (go_at_call 22; refine (least_any _ _ _ _ ‹_› ‹_›).mono ?_; rintro e w' ⟨rfl, rfl⟩) | (go_at_call 10; refine (parts_any _ _ _ ‹_› ‹_›).mono ?_; rintro e w' ⟨rfl, rfl⟩))
  simp [bodyPost, results, Try.results17, go_sem]
end Go.Proofs.Ytilmmemghpagmaa
