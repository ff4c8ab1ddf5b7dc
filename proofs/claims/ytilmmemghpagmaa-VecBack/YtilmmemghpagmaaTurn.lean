/- What the functions of package vec on places do, as contracts: the place, its parts, and it turned. -/
import Derived.Test.YtilmmemghpagmaaChecked
import Derived.Test.YtilmmemghpagmaaNum
import Derived.WalkKit
import Derived.WalkLawsBesides
import Derived.Outline
namespace Go.Proofs.Ytilmmemghpagmaa
open Num Go.RowKit
set_option linter.unusedVariables false

/-- a place turned by so many quarters -/
def tx (k a b : Int) : Int := if k % 4 = 0 then a else if k % 4 = 1 then -b else if k % 4 = 2 then -a else b
def ty (k a b : Int) : Int := if k % 4 = 0 then b else if k % 4 = 1 then a else if k % 4 = 2 then -b else -a

theorem i64_and3 (n : Int) : bits .and .i64 n 3 = n % 4 := by
  have h3 : (BitVec.ofInt 64 3).toNat = 2 ^ 2 - 1 := by decide
  have key : (BitVec.ofInt 64 n &&& BitVec.ofInt 64 3).toNat = (n % ((2 ^ 64 : Nat) : Int)).toNat % 2 ^ 2 := by
    rw [BitVec.toNat_and, BitVec.toNat_ofInt, h3, Nat.and_two_pow_sub_one_eq_mod]
  show IntKind.i64.wrap ((BitVec.ofInt 64 n &&& BitVec.ofInt 64 3).toNat : Nat) = n % 4
  rw [key, IntKind.wrap_i64]
  omega

theorem turn_mul {x y : Nat} {a b : Int} (hx : Is x a) (hy : Is y b) (ha : Small a) (hb : Small b) :
    ∃ re im, cMulBits x y 0 4607182418800017408 = some (re, im) ∧ Is re (-b) ∧ Is im a := by
  have i0 : Is 0 0 := Or.inl F_zero.symm
  have i1 : Is 4607182418800017408 1 := Or.inl F_one.symm
  have s0 : Small 0 := by unfold Small; decide
  have s1 : Small 1 := by unfold Small; decide
  have sa : Small (a * 1) := by rw [Int.mul_one]; exact ha
  have sb : Small (b * 1) := by rw [Int.mul_one]; exact hb
  have za : Small (a * 0) := by rw [Int.mul_zero]; exact s0
  have zb : Small (b * 0) := by rw [Int.mul_zero]; exact s0
  obtain ⟨ac, e1, h1⟩ := mul_is hx i0 ha s0 za
  obtain ⟨bd, e2, h2⟩ := mul_is hy i1 hb s1 sb
  obtain ⟨re, e3, h3, _⟩ := sub_is h1 h2 za sb (by rw [Int.mul_zero, Int.mul_one, Int.zero_sub]; unfold Small at *; rw [Int.natAbs_neg]; exact hb)
  obtain ⟨ad, e4, h4⟩ := mul_is hx i1 ha s1 sa
  obtain ⟨bc, e5, h5⟩ := mul_is hy i0 hb s0 zb
  obtain ⟨im, e6, h6, _⟩ := add_is h4 h5 sa zb (by rw [Int.mul_zero, Int.mul_one, Int.add_zero]; exact ha)
  refine ⟨re, im, ?_, ?_, ?_⟩
  · unfold cMulBits floatBits
    simp only [FloatKind.format, e1, e2, e3, e4, e5, e6, Option.bind_some]
  · rw [Int.mul_zero, Int.mul_one, Int.zero_sub] at h3; exact h3
  · rw [Int.mul_zero, Int.mul_one, Int.add_zero] at h6; exact h6

theorem csum_is {x y : Nat} {a b c d : Int} (hx : Is x a) (hy : Is y b) (ha : Small a) (hb : Small b) (hc : Small c) (hd : Small d) (h1 : Small (a + c)) (h2 : Small (b + d)) :
    cSumBits .add .f64 x y (F c) (F d) = some (F (a + c), F (b + d)) := by
  obtain ⟨re, e1, _, f1⟩ := add_is hx (Is.own c) ha hc h1
  obtain ⟨im, e2, _, f2⟩ := add_is hy (Is.own d) hb hd h2
  unfold cSumBits floatBits
  simp only [FloatKind.format, e1, e2, Option.bind_some, f1 (Or.inr rfl), f2 (Or.inr rfl)]

theorem csub_is {a b c d : Int} (ha : Small a) (hb : Small b) (hc : Small c) (hd : Small d) (h1 : Small (a - c)) (h2 : Small (b - d)) :
    cSumBits .sub .f64 (F a) (F b) (F c) (F d) = some (F (a - c), F (b - d)) := by
  obtain ⟨re, e1, _, f1⟩ := sub_is (Is.own a) (Is.own c) ha hc h1
  obtain ⟨im, e2, _, f2⟩ := sub_is (Is.own b) (Is.own d) hb hd h2
  unfold cSumBits floatBits
  simp only [FloatKind.format, e1, e2, Option.bind_some, f1 rfl, f2 rfl]

theorem Num.Small.neg {a : Int} (h : Small a) : Small (-a) := by unfold Small at *; rw [Int.natAbs_neg]; exact h

theorem run_min_F (w : World) (ts : Array TypeId) (t : TypeId) {a : Int} (h : Small a) : (Builtin.min_ ts t #[.float .f64 (F a), .float .f64 0]).run Try.prog w = .ok (.float .f64 (F (if a < 0 then a else 0))) w := by
  have o := order_is (Is.own a) (Or.inl F_zero.symm : Is 0 0) h (by unfold Small; decide)
  have o' : FloatKind.f64.format.order (F a) 0 = some (compare a 0) := o
  simp only [Builtin.min_, List.foldlM, Builtin.min2, o']
  by_cases c : a < 0
  · have : compare a 0 = .lt := by simp only [compare, compareOfLessAndEq, if_pos c]
    simp [this, c]
  · by_cases d : a = 0
    · subst d
      have : compare (0 : Int) 0 = .eq := by decide
      simp [F_zero]
    · have : compare a 0 = .gt := by simp only [compare, compareOfLessAndEq, if_neg c, if_neg d]
      simp [this, c, F_zero]

theorem of_any (a b : Int) (w : World) : Calls Try.prog 11 #[.int .i64 a, .int .i64 b] w fun e w' => e = .returned (.complex .f64 (F a) (F b)) ∧ w' = w := by
  go_enter Try.func11, Try.ntmps11
  go_wp2
  go_ret
  exact ⟨rfl, rfl⟩

theorem parts_any (a b : Int) (w : World) (ha : Small a) (hb : Small b) : Calls Try.prog 10 #[.complex .f64 (F a) (F b)] w fun e w' => e = .returned (.tuple #[.int .i64 a, .int .i64 b]) ∧ w' = w := by
  have c1 : ∀ w, (convert 35 3 (.float .f64 (F a))).run Try.prog w = .ok (.int .i64 a) w := fun w => run_convert_float_int w 35 3 .f64 .i64 (F a) a (by rw [Try.underlying35]; rfl) Try.underlying3 (whole_is (Is.own a) ha)
  have c2 : ∀ w, (convert 35 3 (.float .f64 (F b))).run Try.prog w = .ok (.int .i64 b) w := fun w => run_convert_float_int w 35 3 .f64 .i64 (F b) b (by rw [Try.underlying35]; rfl) Try.underlying3 (whole_is (Is.own b) hb)
  go_enter Try.func10, Try.ntmps10
  go_wp2_with (simp only [c1, c2])
  simp [bodyPost, results, Try.results10, go_sem]

theorem turn_any (a b k : Int) (w : World) (ha : Small a) (hb : Small b) : Calls Try.prog 12 #[.complex .f64 (F a) (F b), .int .i64 k] w fun e w' => e = .returned (.complex .f64 (F (tx k a b)) (F (ty k a b))) ∧ w' = w := by
  have z : Small 0 := by unfold Small; decide
  obtain ⟨x1, y1, m1, p1, q1⟩ := turn_mul (Is.own a) (Is.own b) ha hb
  obtain ⟨x2, y2, m2, p2, q2⟩ := turn_mul p1 q1 hb.neg ha
  obtain ⟨x3, y3, m3, p3, q3⟩ := turn_mul p2 q2 ha.neg hb.neg
  rw [Int.neg_neg] at p3
  have r1 := fun t w => run_complex_mul (P := Try.prog) w t _ _ _ _ _ _ m1
  have r2 := fun t w => run_complex_mul (P := Try.prog) w t _ _ _ _ _ _ m2
  have r3 := fun t w => run_complex_mul (P := Try.prog) w t _ _ _ _ _ _ m3
  have hk : k % 4 = 0 ∨ k % 4 = 1 ∨ k % 4 = 2 ∨ k % 4 = 3 := by omega
  rcases hk with hk | hk | hk | hk
  · have s := csum_is (c := 0) (d := 0) (Is.own a) (Is.own b) ha hb z z (by rw [Int.add_zero]; exact ha) (by rw [Int.add_zero]; exact hb)
    rw [Int.add_zero, Int.add_zero] at s
    have r4 := fun t w => run_complex_sum (P := Try.prog) w .add (Or.inl rfl) t .f64 _ _ _ _ _ _ s
    have hb3 : bits .and .i64 k 3 = 0 := by rw [i64_and3, hk]
    have ex : tx k a b = a := by unfold tx; simp [hk]
    have ey : ty k a b = b := by unfold ty; simp [hk]
    rw [ex, ey]
    clear ex ey hk
    go_enter Try.func12, Try.ntmps12
    go_wp2
    refine wp_loop_rounds 1 ?_
    rw [rounds_succ]
    go_wp2_with (go_at_call 11; refine (of_any _ _ _).mono ?_; rintro e w' ⟨rfl, rfl⟩)
    go_ret
    exact ⟨rfl, rfl⟩
  · have s := csum_is (c := 0) (d := 0) p1 q1 hb.neg ha z z (by rw [Int.add_zero]; exact hb.neg) (by rw [Int.add_zero]; exact ha)
    rw [Int.add_zero, Int.add_zero] at s
    have r4 := fun t w => run_complex_sum (P := Try.prog) w .add (Or.inl rfl) t .f64 _ _ _ _ _ _ s
    have hb3 : bits .and .i64 k 3 = 1 := by rw [i64_and3, hk]
    have ex : tx k a b = -b := by unfold tx; simp [hk]
    have ey : ty k a b = a := by unfold ty; simp [hk]
    rw [ex, ey]
    clear ex ey hk
    go_enter Try.func12, Try.ntmps12
    go_wp2
    refine wp_loop_rounds 2 ?_
    rw [rounds_succ]
    go_wp2_with (simp only [r1])
    rw [rounds_succ]
    go_wp2_with (go_at_call 11; refine (of_any _ _ _).mono ?_; rintro e w' ⟨rfl, rfl⟩)
    go_ret
    exact ⟨rfl, rfl⟩
  · have s := csum_is (c := 0) (d := 0) p2 q2 ha.neg hb.neg z z (by rw [Int.add_zero]; exact ha.neg) (by rw [Int.add_zero]; exact hb.neg)
    rw [Int.add_zero, Int.add_zero] at s
    have r4 := fun t w => run_complex_sum (P := Try.prog) w .add (Or.inl rfl) t .f64 _ _ _ _ _ _ s
    have hb3 : bits .and .i64 k 3 = 2 := by rw [i64_and3, hk]
    have ex : tx k a b = -a := by unfold tx; simp [hk]
    have ey : ty k a b = -b := by unfold ty; simp [hk]
    rw [ex, ey]
    clear ex ey hk
    go_enter Try.func12, Try.ntmps12
    go_wp2
    refine wp_loop_rounds 3 ?_
    rw [rounds_succ]
    go_wp2_with (simp only [r1])
    rw [rounds_succ]
    go_wp2_with (simp only [r2])
    rw [rounds_succ]
    go_wp2_with (go_at_call 11; refine (of_any _ _ _).mono ?_; rintro e w' ⟨rfl, rfl⟩)
    go_ret
    exact ⟨rfl, rfl⟩
  · have s := csum_is (c := 0) (d := 0) p3 q3 hb ha.neg z z (by rw [Int.add_zero]; exact hb) (by rw [Int.add_zero]; exact ha.neg)
    rw [Int.add_zero, Int.add_zero] at s
    have r4 := fun t w => run_complex_sum (P := Try.prog) w .add (Or.inl rfl) t .f64 _ _ _ _ _ _ s
    have hb3 : bits .and .i64 k 3 = 3 := by rw [i64_and3, hk]
    have ex : tx k a b = b := by unfold tx; simp [hk]
    have ey : ty k a b = -a := by unfold ty; simp [hk]
    rw [ex, ey]
    clear ex ey hk
    go_enter Try.func12, Try.ntmps12
    go_wp2
    refine wp_loop_rounds 4 ?_
    rw [rounds_succ]
    go_wp2_with (simp only [r1])
    rw [rounds_succ]
    go_wp2_with (simp only [r2])
    rw [rounds_succ]
    go_wp2_with (simp only [r3])
    rw [rounds_succ]
    go_wp2_with (go_at_call 11; refine (of_any _ _ _).mono ?_; rintro e w' ⟨rfl, rfl⟩)
    go_ret
    exact ⟨rfl, rfl⟩
end Go.Proofs.Ytilmmemghpagmaa
