/- Means of pixels in a row, as plain numbers. -/
import Derived.Test.YtfgfgfmimejpdaaImg
namespace Go.Proofs.Ytfgfgfmimejpdaa.Num
set_option linter.unusedVariables false

def addX (a b : X) : X := ⟨a.c0 + b.c0, a.c1 + b.c1, a.c2 + b.c2, a.c3 + b.c3⟩
def subX (a b : X) : X := ⟨a.c0 - b.c0, a.c1 - b.c1, a.c2 - b.c2, a.c3 - b.c3⟩
/-- n pixels' sum, from a on -/
def sumX (h : Int → X) (a : Int) : Nat → X
  | 0 => noX
  | n + 1 => addX (sumX h a n) (h (a + (n : Int)))
def meanI (s r : Int) : Int := (s + r) / (2 * r + 1)
def meanX (s : X) (r : Int) : X := ⟨meanI s.c0 r, meanI s.c1 r, meanI s.c2 r, meanI s.c3 r⟩
def byteX (p : X) : Prop := (0 ≤ p.c0 ∧ p.c0 ≤ 255) ∧ (0 ≤ p.c1 ∧ p.c1 ≤ 255) ∧ (0 ≤ p.c2 ∧ p.c2 ≤ 255) ∧ (0 ≤ p.c3 ∧ p.c3 ≤ 255)
/-- between nought and m, each -/
def upX (m : Int) (p : X) : Prop := (0 ≤ p.c0 ∧ p.c0 ≤ m) ∧ (0 ≤ p.c1 ∧ p.c1 ≤ m) ∧ (0 ≤ p.c2 ∧ p.c2 ≤ m) ∧ (0 ≤ p.c3 ∧ p.c3 ≤ m)
theorem byte_no : byteX noX := by unfold byteX noX; decide
theorem X_ext {a b : X} (h0 : a.c0 = b.c0) (h1 : a.c1 = b.c1) (h2 : a.c2 = b.c2) (h3 : a.c3 = b.c3) : a = b := by
  cases a; cases b; simp_all

theorem sum_first (h : Int → X) : ∀ (n : Nat) (a : Int), sumX h a (n + 1) = addX (h a) (sumX h (a + 1) n)
  | 0, a => by
    unfold sumX sumX addX noX
    simp
  | n + 1, a => by
    rw [sumX, sum_first h n a]
    conv => rhs; rw [sumX]
    rw [show a + 1 + (n : Int) = a + ((n + 1 : Nat) : Int) by omega]
    unfold addX
    apply X_ext <;> dsimp only <;> omega
theorem sum_slide (h : Int → X) (n : Nat) (a : Int) : subX (sumX h a (n + 1)) (h a) = sumX h (a + 1) n := by
  rw [sum_first]
  unfold subX addX
  apply X_ext <;> dsimp only <;> omega
theorem add_no (p : X) : addX p noX = p := by unfold addX noX; apply X_ext <;> dsimp only <;> omega
theorem sub_no (p : X) : subX p noX = p := by unfold subX noX; apply X_ext <;> dsimp only <;> omega
theorem sum_up {h : Int → X} (hb : ∀ x, byteX (h x)) (a : Int) : ∀ n : Nat, upX (255 * (n : Int)) (sumX h a n)
  | 0 => by unfold sumX upX noX; decide
  | n + 1 => by
    have h1 := sum_up hb a n
    have h2 := hb (a + (n : Int))
    unfold sumX upX addX
    unfold upX at h1
    unfold byteX at h2
    dsimp only
    omega
theorem sum_zero {h : Int → X} (a : Int) : ∀ n : Nat, (∀ x, a ≤ x → x < a + (n : Int) → h x = noX) → sumX h a n = noX
  | 0, _ => rfl
  | n + 1, hz => by
    rw [sumX, sum_zero a n (fun x h1 h2 => hz x h1 (by omega)), hz _ (by omega) (by omega)]
    exact add_no _
theorem sum_ext {h g : Int → X} (a b : Int) : ∀ n : Nat, (∀ k : Nat, k < n → h (a + (k : Int)) = g (b + (k : Int))) → sumX h a n = sumX g b n
  | 0, _ => rfl
  | n + 1, hz => by
    rw [sumX, sumX, sum_ext a b n (fun k hk => hz k (by omega)), hz n (by omega)]
theorem sum_same {h : Int → X} {p : X} (a : Int) : ∀ n : Nat, (∀ x, a ≤ x → x < a + (n : Int) → h x = p) → sumX h a n = ⟨(n : Int) * p.c0, (n : Int) * p.c1, (n : Int) * p.c2, (n : Int) * p.c3⟩
  | 0, _ => by unfold sumX noX; simp
  | n + 1, hz => by
    rw [sumX, sum_same a n (fun x h1 h2 => hz x h1 (by omega)), hz _ (by omega) (by omega)]
    unfold addX
    apply X_ext <;> dsimp only <;> rw [Int.natCast_succ, Int.add_mul] <;> omega

theorem mean_bd {s r m : Int} (hr : 0 ≤ r) (h0 : 0 ≤ s) (h1 : s ≤ m * (2 * r + 1)) : 0 ≤ meanI s r ∧ meanI s r ≤ m := by
  unfold meanI
  constructor
  · exact Int.ediv_nonneg (by omega) (by omega)
  · have : (s + r) / (2 * r + 1) < m + 1 := by
      rw [Int.ediv_lt_iff_lt_mul (by omega), Int.add_mul]
      omega
    omega
theorem mean_byte {h : Int → X} (hb : ∀ x, byteX (h x)) (a : Int) {r : Nat} : byteX (meanX (sumX h a (2 * r + 1)) (r : Int)) := by
  have hs := sum_up hb a (2 * r + 1)
  rw [show ((2 * r + 1 : Nat) : Int) = 2 * (r : Int) + 1 by omega] at hs
  obtain ⟨h0, h1, h2, h3⟩ := hs
  exact ⟨mean_bd (by omega) h0.1 h0.2, mean_bd (by omega) h1.1 h1.2, mean_bd (by omega) h2.1 h2.2, mean_bd (by omega) h3.1 h3.2⟩
theorem mean_zero {r : Int} (hr : 0 ≤ r) : meanX noX r = noX := by
  have : meanI 0 r = 0 := by
    unfold meanI
    rw [Int.zero_add]
    exact Int.ediv_eq_zero_of_lt hr (by omega)
  unfold meanX noX
  dsimp only
  rw [this]
theorem mean_mul {r c : Int} (hr : 0 ≤ r) : meanI ((2 * r + 1) * c) r = c := by
  unfold meanI
  rw [Int.add_comm, Int.add_mul_ediv_left _ _ (by omega), Int.ediv_eq_zero_of_lt hr (by omega), Int.zero_add]
/-- greater sums, greater means -/
theorem mean_mono {s t r : Int} (hr : 0 ≤ r) (h : s ≤ t) : meanI s r ≤ meanI t r := Int.ediv_le_ediv (by omega) (by omega)
/-- less than half a number away -/
theorem mean_near {s r : Int} (hr : 0 ≤ r) : 2 * (meanI s r * (2 * r + 1) - s) < 2 * r + 1 ∧ -(2 * r + 1) < 2 * (meanI s r * (2 * r + 1) - s) := by
  unfold meanI
  have h1 := Int.emod_nonneg (s + r) (b := 2 * r + 1) (by omega)
  have h2 := Int.emod_lt_of_pos (s + r) (b := 2 * r + 1) (by omega)
  have h3 := Int.mul_ediv_add_emod (s + r) (2 * r + 1)
  rw [Int.mul_comm] at h3
  generalize (s + r) / (2 * r + 1) * (2 * r + 1) = t at *
  omega
/-- the document's nearest number -/
def nearI (s n : Int) : Int := if n < 2 * (s - s / n * n) then s / n + 1 else s / n
theorem near_mean {s r : Int} (hr : 0 ≤ r) : nearI s (2 * r + 1) = meanI s r := by
  unfold nearI meanI
  have h1 := Int.emod_nonneg s (b := 2 * r + 1) (by omega)
  have h2 := Int.emod_lt_of_pos s (b := 2 * r + 1) (by omega)
  have h3 := Int.mul_ediv_add_emod s (2 * r + 1)
  have h4 : s / (2 * r + 1) * (2 * r + 1) = (2 * r + 1) * (s / (2 * r + 1)) := Int.mul_comm _ _
  generalize s / (2 * r + 1) = q at *
  generalize s % (2 * r + 1) = t at *
  have e : s + r = (t + r) + (2 * r + 1) * q := by omega
  have e2 : (s + r) / (2 * r + 1) = (t + r) / (2 * r + 1) + q := by rw [e, Int.add_mul_ediv_left _ _ (by omega)]
  rw [e2]
  by_cases h : 2 * r + 1 < 2 * (s - q * (2 * r + 1))
  · rw [if_pos h]
    have : (t + r) / (2 * r + 1) = 1 := by
      have e3 : t + r = (t + r - (2 * r + 1)) + (2 * r + 1) * 1 := by omega
      rw [e3, Int.add_mul_ediv_left _ _ (by omega), Int.ediv_eq_zero_of_lt (by omega) (by omega)]
      rfl
    omega
  · rw [if_neg h]
    have : (t + r) / (2 * r + 1) = 0 := Int.ediv_eq_zero_of_lt (by omega) (by omega)
    omega

/-- a row's pixels, by their places; nothing elsewhere -/
def gl (l : List X) (j : Int) : X := if 0 ≤ j then l.getD j.toNat noX else noX
theorem gl_in {l : List X} {i : Nat} {p : X} (h : l[i]? = some p) : gl l (i : Int) = p := by
  unfold gl
  rw [if_pos (by omega), Int.toNat_natCast, List.getD_eq_getElem?_getD, h]
  rfl
theorem gl_out {l : List X} {j : Int} (h : j < 0 ∨ (l.length : Int) ≤ j) : gl l j = noX := by
  unfold gl
  by_cases h0 : 0 ≤ j
  · rw [if_pos h0, List.getD_eq_getElem?_getD, List.getElem?_eq_none (by omega)]
    rfl
  · rw [if_neg h0]
theorem gl_byte {l : List X} (h : ∀ p, p ∈ l → byteX p) (j : Int) : byteX (gl l j) := by
  by_cases h0 : 0 ≤ j ∧ j < (l.length : Int)
  · have hlt : j.toNat < l.length := by omega
    have : gl l ((j.toNat : Nat) : Int) = l[j.toNat] := gl_in (List.getElem?_eq_getElem hlt)
    rw [show ((j.toNat : Nat) : Int) = j by omega] at this
    rw [this]
    exact h _ (List.getElem_mem _)
  · rw [gl_out (by omega)]
    exact byte_no
theorem gl_line {h : Int → X} {a b : Int} (j : Int) : gl (line h a b) j = if 0 ≤ j ∧ j < b - a then h (a + j) else noX := by
  by_cases hj : 0 ≤ j ∧ j < b - a
  · rw [if_pos hj]
    have := gl_in (line_get h a b (j := j.toNat) (by omega))
    rw [show ((j.toNat : Nat) : Int) = j by omega] at this
    exact this
  · rw [if_neg hj]
    exact gl_out (by rw [line_len]; omega)

/-- blurred along rows, along columns -/
def rowG (u : Int → Int → X) (r : Nat) (x y : Int) : X := meanX (sumX (fun v => u v y) (x - (r : Int)) (2 * r + 1)) (r : Int)
def colG (u : Int → Int → X) (r : Nat) (x y : Int) : X := meanX (sumX (fun v => u x v) (y - (r : Int)) (2 * r + 1)) (r : Int)
def blurG (u : Int → Int → X) (rx ry : Nat) : Int → Int → X := colG (rowG u rx) ry
theorem row_byte {u : Int → Int → X} (hb : ∀ x y, byteX (u x y)) (r : Nat) (x y : Int) : byteX (rowG u r x y) := mean_byte (fun v => hb v y) _
theorem col_byte {u : Int → Int → X} (hb : ∀ x y, byteX (u x y)) (r : Nat) (x y : Int) : byteX (colG u r x y) := mean_byte (fun v => hb x v) _
theorem at_byte {B : R} {f : Int → Int → X} (hb : ∀ x y, byteX (f x y)) (x y : Int) : byteX (atX B f x y) := by
  unfold atX
  split
  · exact hb x y
  · exact byte_no
theorem row_none {u : Int → Int → X} {r : Nat} {x y : Int} (h : ∀ v, x - (r : Int) ≤ v → v ≤ x + (r : Int) → u v y = noX) : rowG u r x y = noX := by
  unfold rowG
  rw [sum_zero _ _ (fun v h1 h2 => h v h1 (by omega)), mean_zero (by omega)]
theorem col_none {u : Int → Int → X} {r : Nat} {x y : Int} (h : ∀ v, y - (r : Int) ≤ v → v ≤ y + (r : Int) → u x v = noX) : colG u r x y = noX := by
  unfold colG
  rw [sum_zero _ _ (fun v h1 h2 => h v h1 (by omega)), mean_zero (by omega)]
theorem col_ext {u t : Int → Int → X} {r : Nat} {x y : Int} (h : ∀ v, y - (r : Int) ≤ v → v ≤ y + (r : Int) → u x v = t x v) : colG u r x y = colG t r x y := by
  unfold colG
  rw [sum_ext (g := fun v => t x v) _ (y - (r : Int)) _ (fun k hk => h _ (by omega) (by omega))]
theorem row_ext {u t : Int → Int → X} {r : Nat} {x y : Int} (h : ∀ v, x - (r : Int) ≤ v → v ≤ x + (r : Int) → u v y = t v y) : rowG u r x y = rowG t r x y := by
  unfold rowG
  rw [sum_ext (g := fun v => t v y) _ (x - (r : Int)) _ (fun k hk => h _ (by omega) (by omega))]

/-- what stands in the box that is made: within an area, the columns' means; elsewhere what was there -/
def areaG (A : R) (u F : Int → Int → X) (x y : Int) : X := if hasB A x y = true then u x y else F x y

/-- no pixel comes from farther than the radii -/
theorem blur_far {B : R} {f : Int → Int → X} {rx ry : Nat} {x y : Int} (h : ¬ (B.x0 - (rx : Int) ≤ x ∧ x < B.x1 + (rx : Int) ∧ B.y0 - (ry : Int) ≤ y ∧ y < B.y1 + (ry : Int))) : blurG (atX B f) rx ry x y = noX := by
  unfold blurG
  apply col_none
  intro v h1 h2
  apply row_none
  intro u h3 h4
  unfold atX
  rw [if_neg]
  intro hb
  have := of_decide_eq_true hb
  omega

theorem zero_near : meanI 0 0 = 0 := by decide
theorem mean_0 (p : X) : meanX p 0 = p := by
  have : ∀ s : Int, meanI s 0 = s := fun s => by unfold meanI; omega
  unfold meanX
  rw [this, this, this, this]
theorem blur_0 (u : Int → Int → X) (x y : Int) : blurG u 0 0 x y = u x y := by
  have hr : ∀ x y, rowG u 0 x y = u x y := fun x y => by
    unfold rowG
    show meanX (addX noX (u (x - 0 + 0) y)) 0 = u x y
    rw [mean_0, show x - 0 + 0 = x by omega]
    unfold addX noX
    apply X_ext <;> dsimp only <;> omega
  unfold blurG colG
  show meanX (addX noX (rowG u 0 x (y - 0 + 0))) 0 = u x y
  rw [mean_0, hr, show y - 0 + 0 = y by omega]
  unfold addX noX
  apply X_ext <;> dsimp only <;> omega

/-- right pixels' means are right -/
def rightX (p : X) : Prop := p.c0 ≤ p.c3 ∧ p.c1 ≤ p.c3 ∧ p.c2 ≤ p.c3
theorem sum_right {h : Int → X} (hr : ∀ x, rightX (h x)) (a : Int) : ∀ n : Nat, rightX (sumX h a n)
  | 0 => by unfold sumX rightX noX; decide
  | n + 1 => by
    have h1 := sum_right hr a n
    have h2 := hr (a + (n : Int))
    unfold sumX rightX addX
    unfold rightX at h1 h2
    dsimp only
    omega
theorem mean_right {p : X} {r : Int} (hr : 0 ≤ r) (h : rightX p) : rightX (meanX p r) := ⟨mean_mono hr h.1, mean_mono hr h.2.1, mean_mono hr h.2.2⟩
theorem blur_right {u : Int → Int → X} (h : ∀ x y, rightX (u x y)) (rx ry : Nat) (x y : Int) : rightX (blurG u rx ry x y) :=
  mean_right (by omega) (sum_right (fun v => mean_right (by omega) (sum_right (fun w => h w v) _ _)) _ _)
theorem right_no : rightX noX := by unfold rightX noX; decide
/-- what is the same all around stays -/
theorem blur_same {u : Int → Int → X} {p : X} {rx ry : Nat} {x y : Int} (h : ∀ a b, x - (rx : Int) ≤ a → a ≤ x + (rx : Int) → y - (ry : Int) ≤ b → b ≤ y + (ry : Int) → u a b = p) : blurG u rx ry x y = p := by
  have key : ∀ {g : Int → X} {a : Int} {r : Nat}, (∀ v, a ≤ v → v < a + ((2 * r + 1 : Nat) : Int) → g v = p) → meanX (sumX g a (2 * r + 1)) (r : Int) = p := by
    intro g a r hg
    rw [sum_same _ _ hg]
    unfold meanX
    dsimp only
    rw [show ((2 * r + 1 : Nat) : Int) = 2 * (r : Int) + 1 by omega, mean_mul (by omega), mean_mul (by omega), mean_mul (by omega), mean_mul (by omega)]
  unfold blurG colG
  apply key
  intro v h1 h2
  unfold rowG
  apply key
  intro w h3 h4
  exact h w v (by omega) (by omega) (by omega) (by omega)
end Go.Proofs.Ytfgfgfmimejpdaa.Num
