/- Whole numbers below 2^53 as float64 words: each sum, difference and product that stays below 2^53 is exact, and each is read back as it was. -/
import Derived.Laws.ComplexArith
import Derived.Laws.BitsLemmas
namespace Go.Proofs.Ytilmmemghpagmaa
namespace Num
open Ieee

theorem log2_shift {N : Nat} (hN : 0 < N) (k : Nat) : (N * 2 ^ k).log2 = N.log2 + k := by
  have h1 := Nat.log2_self_le (n := N) (by omega)
  have h2 := Nat.lt_log2_self (n := N)
  have hp := Nat.two_pow_pos k
  rw [Nat.log2_eq_iff (Nat.ne_of_gt (Nat.mul_pos hN hp))]
  constructor
  · rw [Nat.pow_add]; exact Nat.mul_le_mul_right _ h1
  · rw [show N.log2 + k + 1 = (N.log2 + 1) + k by omega, Nat.pow_add]; exact Nat.mul_lt_mul_of_pos_right h2 hp

theorem cut_none (neg : Bool) (n : Nat) : Toward.cut .even neg n 0 = n := by
  simp [Toward.cut, Nat.mod_one]

theorem cut_gap (A d : Nat) (hA : 0 < A) : 1 <<< min d ((A * 2 ^ d).log2 + 2) = 2 ^ d := by
  have h : d ≤ (A * 2 ^ d).log2 + 2 := by rw [log2_shift hA]; omega
  rw [Nat.min_eq_left h, Nat.one_shiftLeft]

theorem cut_even (neg : Bool) (A d : Nat) (hA : 0 < A) : Toward.cut .even neg (A * 2 ^ d) d = A := by
  have hp := Nat.two_pow_pos d
  unfold Toward.cut
  simp only [cut_gap A d hA, Nat.mul_mod_left, Nat.mul_div_cancel _ hp]
  have h1 : ¬ (2 ^ d < 2 * 0) := by omega
  have h2 : (2 ^ d == 2 * 0) = false := by rw [beq_eq_false_iff_ne]; omega
  simp [h2]

theorem cut_zero (neg : Bool) (A d : Nat) : Toward.cut .zero neg (A * 2 ^ d) d = A := by
  rcases Nat.eq_zero_or_pos A with h | h
  · subst h; unfold Toward.cut; simp
  · unfold Toward.cut
    simp only [cut_gap A d h, Nat.mul_div_cancel _ (Nat.two_pow_pos d)]
    simp

theorem least_d : double.leastPlace = -1074 := by decide
theorem binade_d : double.binade = 4503599627370496 := by decide
theorem inf_d : double.infRung = 9218868437227405312 := by decide
theorem sign_d : double.signWeight = 9223372036854775808 := by decide

/-- the rung of a whole number -/
def rung (N : Nat) : Nat := (1022 + N.log2) * 4503599627370496 + N * 2 ^ (52 - N.log2)

theorem log_lt {N : Nat} (hN : 0 < N) (h : N < 9007199254740992) : N.log2 ≤ 52 := by
  have := (Nat.log2_lt (n := N) (k := 53) (by omega)).2 (by simpa using h)
  omega

theorem frac {N : Nat} (hN : 0 < N) (h : N < 9007199254740992) : 4503599627370496 ≤ N * 2 ^ (52 - N.log2) ∧ N * 2 ^ (52 - N.log2) < 9007199254740992 := by
  have hl := log_lt hN h
  have h1 := Nat.log2_self_le (n := N) (by omega)
  have h2 := Nat.lt_log2_self (n := N)
  have e1 : (4503599627370496 : Nat) = 2 ^ N.log2 * 2 ^ (52 - N.log2) := by rw [← Nat.pow_add, show N.log2 + (52 - N.log2) = 52 by omega]
  have e2 : (9007199254740992 : Nat) = 2 ^ (N.log2 + 1) * 2 ^ (52 - N.log2) := by rw [← Nat.pow_add, show N.log2 + 1 + (52 - N.log2) = 53 by omega]
  constructor
  · rw [e1]; exact Nat.mul_le_mul_right _ h1
  · rw [e2]; exact Nat.mul_lt_mul_of_pos_right h2 (Nat.two_pow_pos _)

theorem nearest_is (neg : Bool) (N k : Nat) (hN : 0 < N) (h : N < 9007199254740992) : double.nearest neg (N * 2 ^ k) (-(k : Int)) = double.word neg (rung N) := by
  have hl := log_lt hN h
  have hf := frac hN h
  have hp := Nat.two_pow_pos k
  have hm : ¬ N * 2 ^ k = 0 := Nat.ne_of_gt (Nat.mul_pos hN hp)
  unfold Format.nearest
  rw [if_neg hm]
  simp only [log2_shift hN, least_d, binade_d, inf_d]
  have e : max (-(k : Int) + ((N.log2 + k : Nat) : Int) - ((double.fractionBits : Nat) : Int)) (-1074) = -((52 - N.log2 : Nat) : Int) := by
    have : double.fractionBits = 52 := rfl
    rw [this]; omega
  simp only [e]
  have kept : Toward.cut .even neg ((N * 2 ^ k) <<< (-(k : Int) - -((52 - N.log2 : Nat) : Int)).toNat) (-((52 - N.log2 : Nat) : Int) - -(k : Int)).toNat = N * 2 ^ (52 - N.log2) := by
    by_cases c : k ≤ 52 - N.log2
    · rw [show (-((52 - N.log2 : Nat) : Int) - -(k : Int)).toNat = 0 by omega, cut_none, Nat.shiftLeft_eq, Nat.mul_assoc, ← Nat.pow_add, show k + (-(k : Int) - -((52 - N.log2 : Nat) : Int)).toNat = 52 - N.log2 by omega]
    · rw [show (-(k : Int) - -((52 - N.log2 : Nat) : Int)).toNat = 0 by omega, Nat.shiftLeft_zero]
      have : N * 2 ^ k = (N * 2 ^ (52 - N.log2)) * 2 ^ (-((52 - N.log2 : Nat) : Int) - -(k : Int)).toNat := by
        rw [Nat.mul_assoc, ← Nat.pow_add, show 52 - N.log2 + (-((52 - N.log2 : Nat) : Int) - -(k : Int)).toNat = k by omega]
      rw [this, cut_even]
      omega
  rw [kept, show (-((52 - N.log2 : Nat) : Int) - -1074).toNat = 1022 + N.log2 by omega, Nat.min_eq_left]
  · rfl
  · omega

theorem read_word (neg : Bool) (N : Nat) (hN : 0 < N) (h : N < 9007199254740992) :
    double.read (double.word neg (rung N)) = .number neg (N * 2 ^ (52 - N.log2)) (-((52 - N.log2 : Nat) : Int)) := by
  have hl := log_lt hN h
  have hf := frac hN h
  have hr : rung N < 9223372036854775808 := by unfold rung; omega
  have hw : double.word neg (rung N) / 9223372036854775808 % 2 = neg.toNat ∧ double.word neg (rung N) % 9223372036854775808 = rung N := by
    unfold Format.word
    rw [sign_d]
    cases neg <;> simp <;> omega
  unfold Format.read
  simp only [sign_d, binade_d, inf_d, least_d, hw.1, hw.2]
  have r1 : rung N / 4503599627370496 = 1023 + N.log2 := by unfold rung; omega
  have r2 : rung N % 4503599627370496 = N * 2 ^ (52 - N.log2) - 4503599627370496 := by unfold rung; omega
  rw [if_neg (by unfold rung; omega), if_pos (by unfold rung; omega), r1, r2]
  have s1 : (neg.toNat == 1) = neg := by cases neg <;> rfl
  rw [s1, show 4503599627370496 + (N * 2 ^ (52 - N.log2) - 4503599627370496) = N * 2 ^ (52 - N.log2) by omega, show (-1074 : Int) + ((1023 + N.log2 - 1 : Nat) : Int) = -((52 - N.log2 : Nat) : Int) by omega]

/-- the word of a whole number -/
def F (n : Int) : Nat := floatOfInt .f64 n
theorem F_zero : F 0 = 0 := by decide +kernel
theorem F_one : F 1 = 4607182418800017408 := by decide +kernel

/-- a word that is worth a whole number: its own, or the other nought -/
def Is (x : Nat) (n : Int) : Prop := x = F n ∨ (n = 0 ∧ x = 9223372036854775808)
theorem Is.own (n : Int) : Is (F n) n := Or.inl rfl

/-- numbers that are worked with -/
def Small (n : Int) : Prop := n.natAbs < 9007199254740992

/-- a datum that is worth a whole number -/
def Worth (d : Datum) (n : Int) : Prop := ∃ (s : Bool) (k : Nat), d = .number s (n.natAbs * 2 ^ k) (-(k : Int)) ∧ (n ≠ 0 → s = decide (n < 0))

theorem F_word {n : Int} (h0 : n ≠ 0) (h : Small n) : F n = double.word (decide (n < 0)) (rung n.natAbs) := by
  have := nearest_is (decide (n < 0)) n.natAbs 0 (by omega) h
  rw [Nat.pow_zero, Nat.mul_one] at this
  exact this

theorem read_nought : double.read 0 = .number false 0 (-1074) := by decide +kernel
theorem read_other : double.read 9223372036854775808 = .number true 0 (-1074) := by decide +kernel

theorem read_is {x : Nat} {n : Int} (h : Is x n) (hs : Small n) : ∃ (s : Bool) (k : Nat), double.read x = .number s (n.natAbs * 2 ^ k) (-(k : Int)) ∧ (n ≠ 0 → s = decide (n < 0)) ∧ (n = 0 → x = F n → s = false) := by
  by_cases h0 : n = 0
  · subst h0
    rcases h with rfl | ⟨_, rfl⟩
    · exact ⟨false, 1074, by rw [F_zero, read_nought]; simp only [Int.natAbs_zero, Nat.zero_mul]; rfl, fun h => absurd rfl h, fun _ _ => rfl⟩
    · exact ⟨true, 1074, by rw [read_other]; simp only [Int.natAbs_zero, Nat.zero_mul]; rfl, fun h => absurd rfl h, fun _ h => absurd h (by rw [F_zero]; decide)⟩
  · rcases h with rfl | ⟨h, _⟩
    · rw [F_word h0 hs]
      exact ⟨_, _, read_word _ _ (by omega) hs, fun _ => rfl, fun h => absurd h h0⟩
    · exact absurd h h0

theorem write_is {n : Int} {s : Bool} {k : Nat} (hs : Small n) (hn : n ≠ 0 → s = decide (n < 0)) : Is (double.write (.number s (n.natAbs * 2 ^ k) (-(k : Int)))) n ∧ ((n = 0 → s = false) → double.write (.number s (n.natAbs * 2 ^ k) (-(k : Int))) = F n) := by
  have ew : double.write (.number s (n.natAbs * 2 ^ k) (-(k : Int))) = double.nearest s (n.natAbs * 2 ^ k) (-(k : Int)) := rfl
  rw [ew]
  by_cases h0 : n = 0
  · subst h0
    have e : double.nearest s (Int.natAbs 0 * 2 ^ k) (-(k : Int)) = double.word s 0 := by
      unfold Format.nearest; rw [if_pos (by simp)]
    rw [e]
    refine ⟨?_, fun h => ?_⟩
    · cases s
      · exact Or.inl (by rw [F_zero]; rfl)
      · exact Or.inr ⟨rfl, by decide⟩
    · rw [h rfl, F_zero]; rfl
  · have hN : 0 < n.natAbs := by omega
    rw [nearest_is s n.natAbs k hN hs, F_word h0 hs, hn h0]
    exact ⟨Or.inl (F_word h0 hs).symm, fun _ => rfl⟩

theorem signed_is {n : Int} {s : Bool} (k u : Nat) (hn : n ≠ 0 → s = decide (n < 0)) : signed s (n.natAbs * 2 ^ k) u = n * 2 ^ (k + u) := by
  have e : ((n.natAbs * 2 ^ k) <<< u : Nat) = n.natAbs * 2 ^ (k + u) := by rw [Nat.shiftLeft_eq, Nat.mul_assoc, ← Nat.pow_add]
  unfold signed
  rw [e]
  by_cases h0 : n = 0
  · subst h0; simp
  · rw [hn h0]
    by_cases c : n < 0
    · simp only [c, decide_true, if_true]
      rw [show ((n.natAbs * 2 ^ (k + u) : Nat) : Int) = (n.natAbs : Int) * 2 ^ (k + u) by simp, ← Int.neg_mul]
      congr 1
      omega
    · simp only [c, decide_false, Bool.false_eq_true, if_false]
      rw [show ((n.natAbs * 2 ^ (k + u) : Nat) : Int) = (n.natAbs : Int) * 2 ^ (k + u) by simp]
      congr 1
      omega

theorem sum_is {a b : Int} {s t : Bool} {k l : Nat} (ha : a ≠ 0 → s = decide (a < 0)) (hb : b ≠ 0 → t = decide (b < 0)) (hs : Small (a + b)) :
    ∃ r, ((Datum.number s (a.natAbs * 2 ^ k) (-(k : Int))).sum (.number t (b.natAbs * 2 ^ l) (-(l : Int)))).map double.write = some r ∧ Is r (a + b) ∧ ((a = 0 → b = 0 → (s && t) = false) → r = F (a + b)) := by
  have hp : (0 : Int) < 2 ^ (max k l) := Int.pow_pos (by decide)
  have total : signed s (a.natAbs * 2 ^ k) (-(k : Int) - min (-(k : Int)) (-(l : Int))).toNat + signed t (b.natAbs * 2 ^ l) (-(l : Int) - min (-(k : Int)) (-(l : Int))).toNat = (a + b) * 2 ^ (max k l) := by
    rw [signed_is _ _ ha, signed_is _ _ hb, show k + (-(k : Int) - min (-(k : Int)) (-(l : Int))).toNat = max k l by omega, show l + (-(l : Int) - min (-(k : Int)) (-(l : Int))).toNat = max k l by omega, Int.add_mul]
  simp only [Datum.sum, total, Option.map_some]
  have z : (a + b) * 2 ^ (max k l) = 0 ↔ a + b = 0 := by
    constructor
    · intro h; rcases Int.mul_eq_zero.1 h with h | h
      · exact h
      · omega
    · intro h; rw [h, Int.zero_mul]
  have n0 : (a + b) * 2 ^ (max k l) < 0 ↔ a + b < 0 := by
    constructor
    · intro h
      rcases Int.lt_or_le (a + b) 0 with c | c
      · exact c
      · have := Int.mul_nonneg c (Int.le_of_lt hp); omega
    · intro h; exact Int.mul_neg_of_neg_of_pos h hp
  have ab : ((a + b) * 2 ^ (max k l)).natAbs = (a + b).natAbs * 2 ^ (max k l) := by
    rw [Int.natAbs_mul, Int.natAbs_pow]; rfl
  have bs : min (-(k : Int)) (-(l : Int)) = -((max k l : Nat) : Int) := by omega
  simp only [z, n0, ab, bs]
  have w := write_is (n := a + b) (s := if a + b = 0 then s && t else decide (a + b < 0)) (k := max k l) hs (fun h => by rw [if_neg h])
  refine ⟨_, rfl, ?_, fun h => ?_⟩
  · exact w.1
  · refine w.2 fun h0 => ?_
    rw [if_pos h0]
    by_cases h1 : a = 0
    · exact h h1 (by omega)
    · rw [ha h1, hb (by omega)]
      by_cases c : a < 0
      · rw [decide_eq_true c, decide_eq_false (show ¬ b < 0 by omega)]; rfl
      · rw [decide_eq_false c]; rfl

theorem add_is {x y : Nat} {a b : Int} (hx : Is x a) (hy : Is y b) (ha : Small a) (hb : Small b) (hs : Small (a + b)) :
    ∃ r, double.add x y = some r ∧ Is r (a + b) ∧ (x = F a ∨ y = F b → r = F (a + b)) := by
  obtain ⟨s, k, e1, s1, z1⟩ := read_is hx ha
  obtain ⟨t, l, e2, s2, z2⟩ := read_is hy hb
  unfold Format.add
  rw [e1, e2]
  obtain ⟨r, h1, h2, h3⟩ := sum_is (k := k) (l := l) s1 s2 hs
  refine ⟨r, h1, h2, fun h => h3 fun a0 b0 => ?_⟩
  rcases h with h | h
  · rw [z1 a0 h]; rfl
  · rw [z2 b0 h, Bool.and_false]

theorem sub_is {x y : Nat} {a b : Int} (hx : Is x a) (hy : Is y b) (ha : Small a) (hb : Small b) (hs : Small (a - b)) :
    ∃ r, double.sub x y = some r ∧ Is r (a - b) ∧ (x = F a → r = F (a - b)) := by
  obtain ⟨s, k, e1, s1, z1⟩ := read_is hx ha
  obtain ⟨t, l, e2, s2, z2⟩ := read_is hy hb
  unfold Format.sub
  rw [e1, e2]
  have o : (Datum.number t (b.natAbs * 2 ^ l) (-(l : Int))).opposite = .number (!t) ((-b).natAbs * 2 ^ l) (-(l : Int)) := by
    rw [Int.natAbs_neg]; rfl
  have s3 : -b ≠ 0 → (!t) = decide (-b < 0) := by
    intro h
    rw [s2 (by omega)]
    by_cases c : b < 0
    · rw [decide_eq_true c, decide_eq_false (show ¬ -b < 0 by omega)]; rfl
    · rw [decide_eq_false c, decide_eq_true (show -b < 0 by omega)]; rfl
  rw [o]
  obtain ⟨r, h1, h2, h3⟩ := sum_is (k := k) (l := l) s1 s3 (by rw [← Int.sub_eq_add_neg]; exact hs)
  rw [← Int.sub_eq_add_neg] at h2 h3
  refine ⟨r, h1, h2, fun h => h3 fun a0 b0 => ?_⟩
  rw [z1 a0 h]; rfl

theorem mul_is {x y : Nat} {a b : Int} (hx : Is x a) (hy : Is y b) (ha : Small a) (hb : Small b) (hs : Small (a * b)) :
    ∃ r, double.mul x y = some r ∧ Is r (a * b) := by
  obtain ⟨s, k, e1, s1, _⟩ := read_is hx ha
  obtain ⟨t, l, e2, s2, _⟩ := read_is hy hb
  unfold Format.mul
  rw [e1, e2]
  simp only [Datum.product, Option.map_some]
  have m : a.natAbs * 2 ^ k * (b.natAbs * 2 ^ l) = (a * b).natAbs * 2 ^ (k + l) := by
    rw [Int.natAbs_mul, Nat.pow_add]; simp only [Nat.mul_assoc, Nat.mul_left_comm]
  have p : -(k : Int) + -(l : Int) = -((k + l : Nat) : Int) := by omega
  rw [m, p]
  refine ⟨_, rfl, (write_is hs fun h => ?_).1⟩
  have h1 : a ≠ 0 := fun c => h (by rw [c, Int.zero_mul])
  have h2 : b ≠ 0 := fun c => h (by rw [c, Int.mul_zero])
  rw [s1 h1, s2 h2]
  by_cases c : a < 0 <;> by_cases d : b < 0
  · have := Int.mul_pos_of_neg_of_neg c d
    simp only [c, d, decide_true, decide_eq_false (show ¬ a * b < 0 by omega)]; rfl
  · have := Int.mul_neg_of_neg_of_pos c (show 0 < b by omega)
    simp only [c, d, decide_true, decide_false, decide_eq_true this]; rfl
  · have := Int.mul_neg_of_pos_of_neg (show 0 < a by omega) d
    simp only [c, d, decide_true, decide_false, decide_eq_true this]; rfl
  · have := Int.mul_pos (show 0 < a by omega) (show 0 < b by omega)
    simp only [c, d, decide_false, decide_eq_false (show ¬ a * b < 0 by omega)]; rfl

theorem order_is {x y : Nat} {a b : Int} (hx : Is x a) (hy : Is y b) (ha : Small a) (hb : Small b) : double.order x y = some (compare a b) := by
  obtain ⟨s, k, e1, s1, _⟩ := read_is hx ha
  obtain ⟨t, l, e2, s2, _⟩ := read_is hy hb
  unfold Format.order
  rw [e1, e2]
  simp only [Datum.order]
  rw [signed_is _ _ s1, signed_is _ _ s2, show k + (-(k : Int) - min (-(k : Int)) (-(l : Int))).toNat = max k l by omega, show l + (-(l : Int) - min (-(k : Int)) (-(l : Int))).toNat = max k l by omega]
  have hp : (0 : Int) < 2 ^ (max k l) := Int.pow_pos (by decide)
  congr 1
  simp only [compare, compareOfLessAndEq]
  have l1 : a * 2 ^ (max k l) < b * 2 ^ (max k l) ↔ a < b := ⟨fun h => Int.lt_of_mul_lt_mul_right h (Int.le_of_lt hp), fun h => Int.mul_lt_mul_of_pos_right h hp⟩
  have l2 : a * 2 ^ (max k l) = b * 2 ^ (max k l) ↔ a = b := ⟨fun h => Int.eq_of_mul_eq_mul_right (by omega) h, fun h => by rw [h]⟩
  simp only [l1, l2]

theorem whole_is {x : Nat} {a : Int} (hx : Is x a) (ha : Small a) : floatToIntVal .f64 x .i64 = some a := by
  obtain ⟨s, k, e1, s1, _⟩ := read_is hx ha
  have e : (FloatKind.f64.decode x) = .number s (a.natAbs * 2 ^ k) (-(k : Int)) := e1
  unfold floatToIntVal
  rw [e]
  simp only [Datum.toInt, Datum.integral]
  rw [show (-(k : Int)).toNat = 0 by omega, Nat.shiftLeft_zero, show (-(-(k : Int))).toNat = k by omega, cut_zero]
  have := signed_is (n := a) (s := s) 0 0 s1
  rw [Nat.pow_zero, Nat.mul_one] at this
  rw [this]
  unfold Small at ha
  simp only [Nat.add_zero, Int.pow_zero, Int.mul_one]
  rw [if_pos]
  have m1 : IntKind.i64.min = -9223372036854775808 := by decide
  have m2 : IntKind.i64.max = 9223372036854775807 := by decide
  rw [m1, m2]
  omega
end Num
end Go.Proofs.Ytilmmemghpagmaa
