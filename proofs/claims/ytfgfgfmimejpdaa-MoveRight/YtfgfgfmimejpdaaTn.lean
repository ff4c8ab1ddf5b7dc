/- The arithmetic of tones and of pixels that are mixed, value by value. -/
namespace Go.Proofs.Ytfgfgfmimejpdaa.Tn
set_option linter.unusedVariables false

/-- the product of two tones, of their product n as whole numbers -/
def rnd (n : Int) : Int := (n + 128 + (n + 128) / 256) / 256
/-- the product of two tones -/
def mulI (a b : Int) : Int := rnd (a * b)
/-- the quotient of two tones ahead of the cut at 255 -/
def quoI (c a : Int) : Int := (510 * c + a) / (2 * a)
/-- the quotient of two tones -/
def divI (c a : Int) : Int := if a = 0 then 0 else if 255 < quoI c a then 255 else quoI c a
/-- the nearest tone -/
def cutI (n : Int) : Int := if n < 0 then 0 else if 255 < n then 255 else n

theorem prod_bd {a b : Int} (ha : 0 ≤ a ∧ a ≤ 255) (hb : 0 ≤ b ∧ b ≤ 255) : 0 ≤ a * b ∧ a * b ≤ 65025 := by
  refine ⟨Int.mul_nonneg ha.1 hb.1, ?_⟩
  have h1 : a * b ≤ 255 * b := Int.mul_le_mul_of_nonneg_right ha.2 hb.1
  omega
theorem rnd_bd {n : Int} (h : 0 ≤ n ∧ n ≤ 65025) : 0 ≤ rnd n ∧ rnd n ≤ 255 := by unfold rnd; omega
theorem mul_bd {a b : Int} (ha : 0 ≤ a ∧ a ≤ 255) (hb : 0 ≤ b ∧ b ≤ 255) : 0 ≤ mulI a b ∧ mulI a b ≤ 255 := rnd_bd (prod_bd ha hb)
theorem rnd_near {n : Int} (h : 0 ≤ n ∧ n ≤ 65025) : 2 * (255 * rnd n - n) < 255 ∧ -255 < 2 * (255 * rnd n - n) := by unfold rnd; omega
theorem mul_comm (a b : Int) : mulI a b = mulI b a := by unfold mulI; rw [Int.mul_comm]
theorem mul_255 {a : Int} (ha : 0 ≤ a ∧ a ≤ 255) : mulI a 255 = a := by unfold mulI rnd; omega
theorem mul_0 (a : Int) : mulI a 0 = 0 := by unfold mulI rnd; simp
theorem rnd_mono {m n : Int} (h : m ≤ n) : rnd m ≤ rnd n := by unfold rnd; omega
theorem mul_mono {a b c : Int} (h : a ≤ b) (hc : 0 ≤ c) : mulI a c ≤ mulI b c := rnd_mono (Int.mul_le_mul_of_nonneg_right h hc)
theorem mul_le {a c : Int} (ha : 0 ≤ a ∧ a ≤ 255) (hc : 0 ≤ c ∧ c ≤ 255) : mulI a c ≤ a := by
  have h := mul_mono (a := c) (b := 255) (c := a) hc.2 ha.1
  rw [mul_comm c a, mul_comm 255 a, mul_255 ha] at h
  exact h
theorem mul_le' {a c : Int} (ha : 0 ≤ a ∧ a ≤ 255) (hc : 0 ≤ c ∧ c ≤ 255) : mulI a c ≤ c := by rw [mul_comm]; exact mul_le hc ha
/-- the document's product -/
theorem rnd_ref {n : Int} (h : 0 ≤ n ∧ n ≤ 65025) : rnd n = if 255 < 2 * (n - 255 * (n / 255)) then n / 255 + 1 else n / 255 := by
  unfold rnd; split <;> omega

theorem quo_bd {c a : Int} (hc : 0 ≤ c) (ha : 0 < a) : 0 ≤ quoI c a := Int.ediv_nonneg (by omega) (by omega)
theorem quo_mono {a b c : Int} (h : a ≤ b) (hc : 0 < c) : quoI a c ≤ quoI b c := Int.ediv_le_ediv (by omega) (by omega)
theorem div_bd {c a : Int} (hc : 0 ≤ c) (ha : 0 ≤ a) : 0 ≤ divI c a ∧ divI c a ≤ 255 := by
  unfold divI
  by_cases h : a = 0
  · simp [h]
  · have := quo_bd (c := c) (a := a) hc (by omega)
    rw [if_neg h]; split <;> omega
theorem div_mono {a b c : Int} (h : a ≤ b) (hc : 0 ≤ c) : divI a c ≤ divI b c := by
  unfold divI
  by_cases h0 : c = 0
  · simp [h0]
  · have := quo_mono (a := a) (b := b) (c := c) h (by omega)
    rw [if_neg h0, if_neg h0]; split <;> split <;> omega
/-- the document's quotient, ahead of the cut -/
theorem quo_ref {c a : Int} (ha : 0 < a) :
    quoI c a = if a ≤ 2 * (255 * c - a * (255 * c / a)) then 255 * c / a + 1 else 255 * c / a := by
  have e : 255 * c = a * (255 * c / a) + 255 * c % a := by have := Int.mul_ediv_add_emod (255 * c) a; omega
  have r0 : 0 ≤ 255 * c % a := Int.emod_nonneg _ (by omega)
  have r1 : 255 * c % a < a := Int.emod_lt_of_pos _ ha
  have er : 255 * c - a * (255 * c / a) = 255 * c % a := by omega
  rw [er]
  unfold quoI
  generalize 255 * c / a = q at *
  generalize 255 * c % a = r at *
  have e2 : 510 * c + a = (2 * r + a) + (2 * a) * q := by rw [Int.mul_assoc]; omega
  rw [e2, Int.add_mul_ediv_left _ _ (by omega)]
  split
  · have : (2 * r + a) / (2 * a) = 1 := by
      apply Int.le_antisymm
      · have := Int.ediv_lt_of_lt_mul (a := 2 * r + a) (b := 2) (c := 2 * a) (by omega) (by omega); omega
      · exact Int.le_ediv_of_mul_le (by omega) (by omega)
    omega
  · have : (2 * r + a) / (2 * a) = 0 := Int.ediv_eq_zero_of_lt (by omega) (by omega)
    omega
/-- a right pixel's colour, made plain and thick again, is itself -/
theorem back {c a : Int} (hc : 0 ≤ c) (h : c ≤ a) (ha : a ≤ 255) : mulI (divI c a) a = c := by
  by_cases h0 : a = 0
  · have : c = 0 := by omega
    subst h0 this; decide
  · have ha0 : 0 < a := by omega
    have e := Int.mul_ediv_add_emod (510 * c + a) (2 * a)
    have r0 : 0 ≤ (510 * c + a) % (2 * a) := Int.emod_nonneg _ (by omega)
    have r1 : (510 * c + a) % (2 * a) < 2 * a := Int.emod_lt_of_pos _ (by omega)
    have hq : ¬ 255 < quoI c a := by
      have := Int.ediv_lt_of_lt_mul (a := 510 * c + a) (b := 256) (c := 2 * a) (by omega) (by omega)
      unfold quoI; omega
    unfold divI
    rw [if_neg h0, if_neg hq]
    unfold quoI
    generalize (510 * c + a) / (2 * a) = q at *
    generalize (510 * c + a) % (2 * a) = r at *
    unfold mulI
    have e2 : 2 * a * q = 2 * (q * a) := by rw [Int.mul_assoc, Int.mul_comm a q]
    rw [e2] at e
    generalize q * a = x at *
    unfold rnd
    omega


/-- the share of the pixel on top that an operator takes, of the alphas A (on top) and B -/
def sA (op A B : Int) : Int := if op = 0 then 255 else if op = 1 then B else if op = 2 then 255 - B else if op = 3 then B else if op = 4 then 255 - B else 0
/-- the share of the pixel below -/
def sB (op A B : Int) : Int := if op = 0 then 255 - A else if op = 1 then 0 else if op = 2 then 0 else if op = 3 then 255 - A else if op = 4 then 255 - A else 0
/-- one value by an operator -/
def cmp (op a b A B : Int) : Int := cutI (mulI a (sA op A B) + mulI b (sB op A B))
/-- one value by an operator, ahead of the cut, as the document has it -/
def doc (op a b A B : Int) : Int := if op = 0 then a + mulI b (255 - A) else if op = 1 then mulI a B else if op = 2 then mulI a (255 - B) else if op = 3 then mulI a B + mulI b (255 - A) else if op = 4 then mulI a (255 - B) + mulI b (255 - A) else 0
/-- the less and the greater of two numbers -/
def mn (a b : Int) : Int := min a b
def mx (a b : Int) : Int := max a b
/-- what is of each colour where the other one's pixel isn't -/
def aprt (a b A B : Int) : Int := mulI a (255 - B) + mulI b (255 - A)
/-- one colour by a mode other than Normal, ahead of the cut -/
def col (m a b A B : Int) : Int := if m = 1 then mulI a b + aprt a b A B else if m = 2 then a + b - mulI a b else if m = 3 then mn (mulI a B) (mulI b A) + aprt a b A B else if m = 4 then mx (mulI a B) (mulI b A) + aprt a b A B else if m = 5 then a + b - 2 * mn (mulI a B) (mulI b A) else a + b
/-- alpha by a mode other than Normal -/
def cov (m A B : Int) : Int := if m = 6 then cutI (A + B) else cutI (A + B - mulI A B)
/-- one colour by a mode -/
def bl (m a b A B : Int) : Int := if m = 0 then cmp 0 a b A B else mn (cutI (col m a b A B)) (cov m A B)
/-- alpha by a mode -/
def ba (m A B : Int) : Int := if m = 0 then cmp 0 A B A B else cov m A B

theorem cut_bd (n : Int) : 0 ≤ cutI n ∧ cutI n ≤ 255 := by unfold cutI; (repeat' split) <;> omega
theorem cut_id {n : Int} (h : 0 ≤ n ∧ n ≤ 255) : cutI n = n := by unfold cutI; rw [if_neg (by omega), if_neg (by omega)]
theorem cut_mono {m n : Int} (h : m ≤ n) : cutI m ≤ cutI n := by unfold cutI; (repeat' split) <;> omega
theorem sA_bd (op : Int) {A B : Int} (hA : 0 ≤ A ∧ A ≤ 255) (hB : 0 ≤ B ∧ B ≤ 255) : 0 ≤ sA op A B ∧ sA op A B ≤ 255 := by unfold sA; (repeat' split) <;> omega
theorem sB_bd (op : Int) {A B : Int} (hA : 0 ≤ A ∧ A ≤ 255) (hB : 0 ≤ B ∧ B ≤ 255) : 0 ≤ sB op A B ∧ sB op A B ≤ 255 := by unfold sB; (repeat' split) <;> omega
theorem cmp_bd (op a b A B : Int) : 0 ≤ cmp op a b A B ∧ cmp op a b A B ≤ 255 := cut_bd _
theorem cov_bd (m A B : Int) : 0 ≤ cov m A B ∧ cov m A B ≤ 255 := by unfold cov; split <;> exact cut_bd _
theorem ba_bd (m A B : Int) : 0 ≤ ba m A B ∧ ba m A B ≤ 255 := by unfold ba; split; exact cmp_bd _ _ _ _ _; exact cov_bd _ _ _
theorem bl_bd (m a b A B : Int) : 0 ≤ bl m a b A B ∧ bl m a b A B ≤ 255 := by
  have h1 := cut_bd (col m a b A B)
  have h2 := cov_bd m A B
  unfold bl; split
  · exact cmp_bd _ _ _ _ _
  · unfold mn; omega
theorem mul_0' (a : Int) : mulI 0 a = 0 := by rw [mul_comm]; exact mul_0 a
/-- the program's way to an operator is the document's -/
theorem doc_cmp {op a b A B : Int} (ha : 0 ≤ a ∧ a ≤ 255) : mulI a (sA op A B) + mulI b (sB op A B) = doc op a b A B := by
  unfold sA sB doc
  (repeat' split) <;> (try simp only [mul_255 ha, mul_0]) <;> omega
theorem cmp_doc {op a b A B : Int} (ha : 0 ≤ a ∧ a ≤ 255) : cutI (doc op a b A B) = cmp op a b A B := by unfold cmp; rw [doc_cmp ha]
theorem doc_bd {op a b A B : Int} (ha : 0 ≤ a ∧ a ≤ 255) (hb : 0 ≤ b ∧ b ≤ 255) (hA : 0 ≤ A ∧ A ≤ 255) (hB : 0 ≤ B ∧ B ≤ 255) : 0 ≤ doc op a b A B ∧ doc op a b A B ≤ 510 := by
  have h1 := mul_bd ha (sA_bd op hA hB)
  have h2 := mul_bd hb (sB_bd op hA hB)
  rw [← doc_cmp ha]; omega
/-- cutting to alpha, behind or ahead of the cut to a tone -/
theorem cut_mn {n c : Int} (hc : 0 ≤ c ∧ c ≤ 255) : cutI (mn n c) = mn (cutI n) c := by unfold mn cutI; (repeat' split) <;> omega
theorem mx_mn (x y : Int) : x + y - mn x y = mx x y := by unfold mn mx; omega
theorem less_bd {A : Int} (hA : 0 ≤ A ∧ A ≤ 255) : 0 ≤ 255 - A ∧ 255 - A ≤ 255 := by omega
theorem aprt_bd {a b A B : Int} (ha : 0 ≤ a ∧ a ≤ 255) (hb : 0 ≤ b ∧ b ≤ 255) (hA : 0 ≤ A ∧ A ≤ 255) (hB : 0 ≤ B ∧ B ≤ 255) : 0 ≤ aprt a b A B ∧ aprt a b A B ≤ 510 := by
  have h1 := mul_bd ha (less_bd hB)
  have h2 := mul_bd hb (less_bd hA)
  unfold aprt; omega
theorem col_bd (m : Int) {a b A B : Int} (ha : 0 ≤ a ∧ a ≤ 255) (hb : 0 ≤ b ∧ b ≤ 255) (hA : 0 ≤ A ∧ A ≤ 255) (hB : 0 ≤ B ∧ B ≤ 255) : -1000 ≤ col m a b A B ∧ col m a b A B ≤ 1000 := by
  have h1 := aprt_bd ha hb hA hB
  have h2 := mul_bd ha hb
  have h3 := mul_bd ha hB
  have h4 := mul_bd hb hA
  unfold col mn mx
  (repeat' split) <;> omega

/-- products with a tone and with what lacks from it to 255 come to the whole -/
theorem mul_parts {a B : Int} (ha : 0 ≤ a ∧ a ≤ 255) (hB : 0 ≤ B ∧ B ≤ 255) : mulI a B + mulI a (255 - B) = a := by
  have h1 := rnd_near (prod_bd ha hB)
  have h2 := rnd_near (prod_bd ha (less_bd hB))
  have e : a * (255 - B) = 255 * a - a * B := by rw [Int.mul_sub]; omega
  unfold mulI
  rw [e] at h2 ⊢
  generalize a * B = x at *
  omega

/-- what right colours are composed to is no more than what alphas are -/
theorem cmp_right {op a b A B : Int} (ha : 0 ≤ a ∧ a ≤ A) (hb : 0 ≤ b ∧ b ≤ B) (hA : A ≤ 255) (hB : B ≤ 255) : cmp op a b A B ≤ cmp op A B A B := by
  have h1 := sA_bd (A := A) (B := B) op (by omega) (by omega)
  have h2 := sB_bd (A := A) (B := B) op (by omega) (by omega)
  have h3 := mul_mono (c := sA op A B) ha.2 h1.1
  have h4 := mul_mono (c := sB op A B) hb.2 h2.1
  exact cut_mono (by omega)
theorem bl_right {m a b A B : Int} (ha : 0 ≤ a ∧ a ≤ A) (hb : 0 ≤ b ∧ b ≤ B) (hA : A ≤ 255) (hB : B ≤ 255) : bl m a b A B ≤ ba m A B := by
  unfold bl ba
  split
  · exact cmp_right ha hb hA hB
  · unfold mn; omega

/-- nothing on top -/
theorem cmp_none {op b B : Int} (hb : 0 ≤ b ∧ b ≤ 255) (h : op = 0 ∨ op = 3 ∨ op = 4) : cmp op 0 b 0 B = b := by
  have h0 := mul_255 hb
  unfold cmp
  rw [mul_0']
  rcases h with rfl | rfl | rfl
  all_goals
    simp [sB, h0]
    exact cut_id hb
theorem cmp_none' {op b B : Int} (h : op = 1 ∨ op = 2 ∨ op = 5) : cmp op 0 b 0 B = 0 := by
  unfold cmp
  rw [mul_0']
  rcases h with rfl | rfl | rfl
  all_goals
    simp [sB, mul_0]
    decide
/-- onto nothing -/
theorem cmp_onto {op a A : Int} (ha : 0 ≤ a ∧ a ≤ 255) (h : op = 0 ∨ op = 2 ∨ op = 4) : cmp op a 0 A 0 = a := by
  have h0 := mul_255 ha
  unfold cmp
  rw [mul_0']
  rcases h with rfl | rfl | rfl
  all_goals
    simp [sA, h0]
    exact cut_id ha
theorem cmp_clear (a b A B : Int) : cmp 5 a b A B = 0 := by
  unfold cmp sA sB
  simp [mul_0]
  decide
theorem cov_none {m B : Int} (hB : 0 ≤ B ∧ B ≤ 255) : cov m 0 B = B := by
  unfold cov
  rw [mul_0']
  split <;> (have := cut_id hB; simp [this])
theorem cov_onto {m A : Int} (hA : 0 ≤ A ∧ A ≤ 255) : cov m A 0 = A := by
  unfold cov
  rw [mul_0]
  split <;> (have := cut_id hA; simp [this])
theorem col_none {m b B : Int} (hb : 0 ≤ b ∧ b ≤ 255) (hm : 0 < m ∧ m ≤ 6) : col m 0 b 0 B = b := by
  have h0 := mul_255 hb
  unfold col aprt mn mx
  simp only [mul_0', mul_0]
  (repeat' split) <;> simp [h0]
theorem col_onto {m a A : Int} (ha : 0 ≤ a ∧ a ≤ 255) (hm : 0 < m ∧ m ≤ 6) : col m a 0 A 0 = a := by
  have h0 := mul_255 ha
  unfold col aprt mn mx
  simp only [mul_0', mul_0]
  (repeat' split) <;> simp [h0]
theorem bl_none {m b B : Int} (hb : 0 ≤ b ∧ b ≤ B) (hB : B ≤ 255) (hm : 0 ≤ m ∧ m ≤ 6) : bl m 0 b 0 B = b := by
  unfold bl
  split
  · exact cmp_none (by omega) (Or.inl rfl)
  · rw [col_none (by omega) (by omega), cov_none (by omega), cut_id (by omega)]
    unfold mn; omega
theorem bl_onto {m a A : Int} (ha : 0 ≤ a ∧ a ≤ A) (hA : A ≤ 255) (hm : 0 ≤ m ∧ m ≤ 6) : bl m a 0 A 0 = a := by
  unfold bl
  split
  · exact cmp_onto (by omega) (Or.inl rfl)
  · rw [col_onto (by omega) (by omega), cov_onto (by omega), cut_id (by omega)]
    unfold mn; omega
theorem ba_none {m B : Int} (hB : 0 ≤ B ∧ B ≤ 255) : ba m 0 B = B := by
  unfold ba
  split
  · exact cmp_none hB (Or.inl rfl)
  · exact cov_none hB
theorem ba_onto {m A : Int} (hA : 0 ≤ A ∧ A ≤ 255) : ba m A 0 = A := by
  unfold ba
  split
  · exact cmp_onto hA (Or.inl rfl)
  · exact cov_onto hA

/-- which is on top -/
theorem col_turn (m a b A B : Int) : col m b a B A = col m a b A B := by
  have e := mul_comm b a
  unfold col aprt mn mx
  rw [e]
  (repeat' split) <;> omega
theorem cov_turn (m A B : Int) : cov m B A = cov m A B := by
  unfold cov
  rw [mul_comm B A, Int.add_comm B A]
theorem bl_turn {m : Int} (hm : 0 < m) (a b A B : Int) : bl m b a B A = bl m a b A B := by
  unfold bl
  rw [if_neg (by omega), if_neg (by omega), col_turn, cov_turn]
theorem ba_turn {m : Int} (hm : 0 < m) (A B : Int) : ba m B A = ba m A B := by
  unfold ba
  rw [if_neg (by omega), if_neg (by omega), cov_turn]
theorem cmp_turn (a b A B : Int) : cmp 4 b a B A = cmp 4 a b A B := by
  unfold cmp sA sB
  simp
  rw [Int.add_comm]

/-- full alpha -/
theorem bl_full {a b B : Int} (ha : 0 ≤ a ∧ a ≤ 255) : bl 0 a b 255 B = a := by
  have h0 := mul_255 ha
  unfold bl cmp sA sB
  simp [h0, mul_0]
  exact cut_id ha
theorem ba_full {B : Int} : ba 0 255 B = 255 := by
  unfold ba cmp sA sB
  simp [mul_0]
  decide
theorem ba_on {m A : Int} (hA : 0 ≤ A ∧ A ≤ 255) : ba m A 255 = 255 := by
  have h1 := mul_255 hA
  have h2 := mul_255 (less_bd hA)
  rw [mul_comm] at h2
  unfold ba
  split
  · unfold cmp sA sB
    simp [h1, h2]
    rw [show A + (255 - A) = 255 by omega]; decide
  · unfold cov
    rw [h1]
    split
    · unfold cutI; rw [if_neg (by omega)]; split <;> omega
    · rw [show A + 255 - A = 255 by omega]; decide
theorem ba_top {m B : Int} (hB : 0 ≤ B ∧ B ≤ 255) : ba m 255 B = 255 := by
  by_cases h : m = 0
  · subst h; exact ba_full
  · have e : ba m 255 B = ba m B 255 := by unfold ba; rw [if_neg h, if_neg h, cov_turn]
    rw [e]; exact ba_on hB
end Go.Proofs.Ytfgfgfmimejpdaa.Tn
