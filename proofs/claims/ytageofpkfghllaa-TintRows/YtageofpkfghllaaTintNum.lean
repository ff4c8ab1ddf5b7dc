/- The plain arithmetic of a matrix: what a row makes of plain colours, what a matrix makes of a pixel. No Go in sight. -/
import Derived.Test.YtageofpkfghllaaNum
namespace Go.Proofs.Ytageofpkfghllaa.Num

/-- what a row's five numbers sum to, in 256ths, with the half of one -/
def sumI (m0 m1 m2 m3 m4 r g b a : Int) : Int := m4 * 255 + 128 + m0 * r + m1 * g + m2 * b + m3 * a
/-- what a row makes of plain colours -/
def rowI (m0 m1 m2 m3 m4 r g b a : Int) : Int := cutI (sumI m0 m1 m2 m3 m4 r g b a / 256)
/-- a matrix's number -/
def nth (l : List Int) (i : Nat) : Int := l.getD i 0
/-- what the row that begins at j makes of plain colours -/
def lineI (l : List Int) (j : Nat) (r g b a : Int) : Int := rowI (nth l j) (nth l (j + 1)) (nth l (j + 2)) (nth l (j + 3)) (nth l (j + 4)) r g b a
/-- what a matrix makes of a pixel: a row's plain colour, and the thick one -/
def plnI (l : List Int) (j : Nat) (r g b a : Int) : Int := lineI l j (divI r a) (divI g a) (divI b a) a
def colI (l : List Int) (j : Nat) (r g b a : Int) : Int := mulI (plnI l j r g b a) (plnI l 15 r g b a)
def okI (n : Int) : Bool := decide (-32768 ≤ n) && decide (n ≤ 32767)
/-- whether a list is a matrix -/
def rightM (l : List Int) : Bool := decide (l.length = 20) && l.all okI

theorem cut_bd (n : Int) : 0 ≤ cutI n ∧ cutI n ≤ 255 := by unfold cutI; split <;> (try split) <;> omega
theorem row_bd (m0 m1 m2 m3 m4 r g b a : Int) : 0 ≤ rowI m0 m1 m2 m3 m4 r g b a ∧ rowI m0 m1 m2 m3 m4 r g b a ≤ 255 := cut_bd _
theorem line_bd (l : List Int) (j : Nat) (r g b a : Int) : 0 ≤ lineI l j r g b a ∧ lineI l j r g b a ≤ 255 := cut_bd _
theorem pln_bd (l : List Int) (j : Nat) (r g b a : Int) : 0 ≤ plnI l j r g b a ∧ plnI l j r g b a ≤ 255 := cut_bd _
theorem col_bd (l : List Int) (j : Nat) (r g b a : Int) : 0 ≤ colI l j r g b a ∧ colI l j r g b a ≤ 255 := mul_bd (pln_bd _ _ _ _ _ _) (pln_bd _ _ _ _ _ _)
theorem col_le (l : List Int) (j : Nat) (r g b a : Int) : colI l j r g b a ≤ plnI l 15 r g b a := mul_le' (pln_bd _ _ _ _ _ _) (pln_bd _ _ _ _ _ _)

theorem ok_bd {n : Int} (h : okI n = true) : -32768 ≤ n ∧ n ≤ 32767 := by unfold okI at h; simpa using h
theorem ok_no {n : Int} (h : n < -32768 ∨ 32767 < n) : okI n = false := by unfold okI; simp; omega
theorem ok_yes {n : Int} (h : -32768 ≤ n ∧ n ≤ 32767) : okI n = true := by unfold okI; simp; omega
theorem right_len {l : List Int} (h : rightM l = true) : l.length = 20 := by unfold rightM at h; simp at h; exact h.1
theorem nth_get {l : List Int} {i : Nat} (h : i < l.length) : l[i]? = some (nth l i) := by unfold nth; rw [List.getElem?_eq_getElem h]; simp [h]
theorem nth_some {l : List Int} {i : Nat} {n : Int} (h : l[i]? = some n) : nth l i = n := by unfold nth; simp [h]
theorem right_ok {l : List Int} (h : rightM l = true) {i : Nat} (hi : i < 20) : -32768 ≤ nth l i ∧ nth l i ≤ 32767 := by
  have hl := right_len h
  unfold rightM at h
  rw [Bool.and_eq_true, List.all_eq_true] at h
  have hg := nth_get (l := l) (i := i) (by omega)
  exact ok_bd (h.2 _ (List.mem_of_getElem? hg))
theorem prod_sm {m c : Int} (hm : -32768 ≤ m ∧ m ≤ 32767) (hc : 0 ≤ c ∧ c ≤ 255) : -8355840 ≤ m * c ∧ m * c ≤ 8355840 := by
  have h1 : m * c ≤ 32767 * c := Int.mul_le_mul_of_nonneg_right hm.2 hc.1
  have h2 : -32768 * c ≤ m * c := Int.mul_le_mul_of_nonneg_right hm.1 hc.1
  omega
/-- the last alone is added to nothing -/
theorem line_0 (l : List Int) (j : Nat) : lineI l j 0 0 0 0 = cutI ((nth l (j + 4) * 255 + 128) / 256) := by unfold lineI rowI sumI; simp
end Go.Proofs.Ytageofpkfghllaa.Num
