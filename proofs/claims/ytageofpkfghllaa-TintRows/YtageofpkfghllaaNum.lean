/- The plain arithmetic of tones: the product and the quotient of two tones as whole numbers, and what follows of them. No Go in sight. -/
namespace Go.Proofs.Ytageofpkfghllaa.Num

/-- the product of two tones, of their product n as whole numbers -/
def rnd (n : Int) : Int := (n + 128 + (n + 128) / 256) / 256
/-- the product of two tones -/
def mulI (a b : Int) : Int := rnd (a * b)
/-- the quotient of two tones ahead of the cut at 255 -/
def quoI (c a : Int) : Int := (510 * c + a) / (2 * a)
/-- the quotient of two tones -/
def divI (c a : Int) : Int := if a = 0 then 0 else if 255 < quoI c a then 255 else quoI c a
/-- the nearest tone -/
def cutI (n : Int) : Int := if n < 0 then 0 else if 255 < n then 255 else n

theorem prod_bd {a b : Int} (ha : 0 ≤ a ∧ a ≤ 255) (hb : 0 ≤ b ∧ b ≤ 255) : 0 ≤ a * b ∧ a * b ≤ 65025 := by
  refine ⟨Int.mul_nonneg ha.1 hb.1, ?_⟩
  have h1 : a * b ≤ 255 * b := Int.mul_le_mul_of_nonneg_right ha.2 hb.1
  omega
theorem rnd_bd {n : Int} (h : 0 ≤ n ∧ n ≤ 65025) : 0 ≤ rnd n ∧ rnd n ≤ 255 := by unfold rnd; omega
theorem mul_bd {a b : Int} (ha : 0 ≤ a ∧ a ≤ 255) (hb : 0 ≤ b ∧ b ≤ 255) : 0 ≤ mulI a b ∧ mulI a b ≤ 255 := rnd_bd (prod_bd ha hb)
theorem rnd_near {n : Int} (h : 0 ≤ n ∧ n ≤ 65025) : 2 * (255 * rnd n - n) < 255 ∧ -255 < 2 * (255 * rnd n - n) := by unfold rnd; omega
theorem mul_comm (a b : Int) : mulI a b = mulI b a := by unfold mulI; rw [Int.mul_comm]
theorem mul_255 {a : Int} (ha : 0 ≤ a ∧ a ≤ 255) : mulI a 255 = a := by unfold mulI rnd; omega
theorem mul_0 (a : Int) : mulI a 0 = 0 := by unfold mulI rnd; simp
theorem rnd_mono {m n : Int} (h : m ≤ n) : rnd m ≤ rnd n := by unfold rnd; omega
theorem mul_mono {a b c : Int} (h : a ≤ b) (hc : 0 ≤ c) : mulI a c ≤ mulI b c := rnd_mono (Int.mul_le_mul_of_nonneg_right h hc)
theorem mul_le {a c : Int} (ha : 0 ≤ a ∧ a ≤ 255) (hc : 0 ≤ c ∧ c ≤ 255) : mulI a c ≤ a := by
  have h := mul_mono (a := c) (b := 255) (c := a) hc.2 ha.1
  rw [mul_comm c a, mul_comm 255 a, mul_255 ha] at h
  exact h
theorem mul_le' {a c : Int} (ha : 0 ≤ a ∧ a ≤ 255) (hc : 0 ≤ c ∧ c ≤ 255) : mulI a c ≤ c := by rw [mul_comm]; exact mul_le hc ha
/-- the document's product -/
theorem rnd_ref {n : Int} (h : 0 ≤ n ∧ n ≤ 65025) : rnd n = if 255 < 2 * (n - 255 * (n / 255)) then n / 255 + 1 else n / 255 := by
  unfold rnd; split <;> omega

theorem quo_bd {c a : Int} (hc : 0 ≤ c) (ha : 0 < a) : 0 ≤ quoI c a := Int.ediv_nonneg (by omega) (by omega)
theorem quo_mono {a b c : Int} (h : a ≤ b) (hc : 0 < c) : quoI a c ≤ quoI b c := Int.ediv_le_ediv (by omega) (by omega)
theorem div_bd {c a : Int} (hc : 0 ≤ c) (ha : 0 ≤ a) : 0 ≤ divI c a ∧ divI c a ≤ 255 := by
  unfold divI
  by_cases h : a = 0
  · simp [h]
  · have := quo_bd (c := c) (a := a) hc (by omega)
    rw [if_neg h]; split <;> omega
theorem div_mono {a b c : Int} (h : a ≤ b) (hc : 0 ≤ c) : divI a c ≤ divI b c := by
  unfold divI
  by_cases h0 : c = 0
  · simp [h0]
  · have := quo_mono (a := a) (b := b) (c := c) h (by omega)
    rw [if_neg h0, if_neg h0]; split <;> split <;> omega
/-- the document's quotient, ahead of the cut -/
theorem quo_ref {c a : Int} (ha : 0 < a) :
    quoI c a = if a ≤ 2 * (255 * c - a * (255 * c / a)) then 255 * c / a + 1 else 255 * c / a := by
  have e : 255 * c = a * (255 * c / a) + 255 * c % a := by have := Int.mul_ediv_add_emod (255 * c) a; omega
  have r0 : 0 ≤ 255 * c % a := Int.emod_nonneg _ (by omega)
  have r1 : 255 * c % a < a := Int.emod_lt_of_pos _ ha
  have er : 255 * c - a * (255 * c / a) = 255 * c % a := by omega
  rw [er]
  unfold quoI
  generalize 255 * c / a = q at *
  generalize 255 * c % a = r at *
  have e2 : 510 * c + a = (2 * r + a) + (2 * a) * q := by rw [Int.mul_assoc]; omega
  rw [e2, Int.add_mul_ediv_left _ _ (by omega)]
  split
  · have : (2 * r + a) / (2 * a) = 1 := by
      apply Int.le_antisymm
      · have := Int.ediv_lt_of_lt_mul (a := 2 * r + a) (b := 2) (c := 2 * a) (by omega) (by omega); omega
      · exact Int.le_ediv_of_mul_le (by omega) (by omega)
    omega
  · have : (2 * r + a) / (2 * a) = 0 := Int.ediv_eq_zero_of_lt (by omega) (by omega)
    omega
/-- a right pixel's colour, made plain and thick again, is itself -/
theorem back {c a : Int} (hc : 0 ≤ c) (h : c ≤ a) (ha : a ≤ 255) : mulI (divI c a) a = c := by
  by_cases h0 : a = 0
  · have : c = 0 := by omega
    subst h0 this; decide
  · have ha0 : 0 < a := by omega
    have e := Int.mul_ediv_add_emod (510 * c + a) (2 * a)
    have r0 : 0 ≤ (510 * c + a) % (2 * a) := Int.emod_nonneg _ (by omega)
    have r1 : (510 * c + a) % (2 * a) < 2 * a := Int.emod_lt_of_pos _ (by omega)
    have hq : ¬ 255 < quoI c a := by
      have := Int.ediv_lt_of_lt_mul (a := 510 * c + a) (b := 256) (c := 2 * a) (by omega) (by omega)
      unfold quoI; omega
    unfold divI
    rw [if_neg h0, if_neg hq]
    unfold quoI
    generalize (510 * c + a) / (2 * a) = q at *
    generalize (510 * c + a) % (2 * a) = r at *
    unfold mulI
    have e2 : 2 * a * q = 2 * (q * a) := by rw [Int.mul_assoc, Int.mul_comm a q]
    rw [e2] at e
    generalize q * a = x at *
    unfold rnd
    omega
end Go.Proofs.Ytageofpkfghllaa.Num
