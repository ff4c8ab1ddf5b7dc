/- Pixels in boxes, as plain lists: row by row. -/
import Derived.Test.YtfgfgfmimejpdaaNum
namespace Go.Proofs.Ytfgfgfmimejpdaa.Num
set_option linter.unusedVariables false

/-- a pixel -/
structure X where
  c0 : Int
  c1 : Int
  c2 : Int
  c3 : Int
  deriving DecidableEq
def noX : X := ⟨0, 0, 0, 0⟩

def wid (B : R) : Nat := (B.x1 - B.x0).toNat
def hei (B : R) : Nat := (B.y1 - B.y0).toNat
/-- a box's pixels, row by row -/
def img (B : R) (g : Int → Int → X) : List X := (List.range (wid B * hei B)).map fun i => g (B.x0 + (i % wid B : Nat)) (B.y0 + (i / wid B : Nat))
def posN (B : R) (x y : Int) : Nat := (y - B.y0).toNat * wid B + (x - B.x0).toNat
def line (h : Int → X) (a b : Int) : List X := (List.range (b - a).toNat).map fun j => h (a + (j : Nat))
def setL (l : List X) (s : Nat) (news : List X) : List X := l.take s ++ news ++ l.drop (s + news.length)

theorem img_len (B : R) (g : Int → Int → X) : (img B g).length = wid B * hei B := by unfold img; simp
theorem line_len (h : Int → X) (a b : Int) : (line h a b).length = (b - a).toNat := by unfold line; simp
theorem img_get (B : R) (g : Int → Int → X) {i : Nat} (hi : i < wid B * hei B) : (img B g)[i]? = some (g (B.x0 + (i % wid B : Nat)) (B.y0 + (i / wid B : Nat))) := by
  unfold img; rw [List.getElem?_map, List.getElem?_range hi]; rfl
theorem line_get (h : Int → X) (a b : Int) {j : Nat} (hj : j < (b - a).toNat) : (line h a b)[j]? = some (h (a + (j : Nat))) := by
  unfold line; rw [List.getElem?_map, List.getElem?_range hj]; rfl

theorem dm {v w u : Nat} (hu : u < w) : (v * w + u) % w = u ∧ (v * w + u) / w = v := by
  constructor
  · rw [Nat.mul_comm, Nat.mul_add_mod, Nat.mod_eq_of_lt hu]
  · rw [Nat.mul_comm, Nat.mul_add_div (by omega), Nat.div_eq_of_lt hu, Nat.add_zero]
theorem row_lt {v w u h : Nat} (hu : u < w) (hv : v < h) : v * w + u < w * h := by
  have : (v + 1) * w ≤ h * w := Nat.mul_le_mul_right _ hv
  rw [Nat.mul_comm w h]
  rw [Nat.add_mul] at this
  omega
/-- where a pixel of the box stands -/
theorem pos_of {B : R} {x y : Int} (hb : hasB B x y = true) : posN B x y < wid B * hei B ∧ B.x0 + (posN B x y % wid B : Nat) = x ∧ B.y0 + (posN B x y / wid B : Nat) = y := by
  have hb := of_decide_eq_true hb
  have hu : (x - B.x0).toNat < wid B := by unfold wid; omega
  have hv : (y - B.y0).toNat < hei B := by unfold hei; omega
  obtain ⟨e1, e2⟩ := dm (v := (y - B.y0).toNat) hu
  unfold posN
  rw [e1, e2]
  exact ⟨row_lt hu hv, by omega, by omega⟩
theorem at_img {B : R} {x y : Int} (g : Int → Int → X) (hb : hasB B x y = true) : (img B g)[posN B x y]? = some (g x y) := by
  obtain ⟨h1, h2, h3⟩ := pos_of hb
  rw [img_get B g h1, h2, h3]
/-- each place is a pixel's -/
theorem of_pos {B : R} {i : Nat} (hi : i < wid B * hei B) : hasB B (B.x0 + (i % wid B : Nat)) (B.y0 + (i / wid B : Nat)) = true ∧ i = (i / wid B) * wid B + i % wid B ∧ i % wid B < wid B ∧ i / wid B < hei B := by
  have hw : 0 < wid B := by
    rcases Nat.eq_zero_or_pos (wid B) with h | h
    · rw [h] at hi; simp at hi
    · exact h
  have h1 : i % wid B < wid B := Nat.mod_lt _ hw
  have h2 : i / wid B < hei B := (Nat.div_lt_iff_lt_mul hw).2 (by rwa [Nat.mul_comm])
  have h3 := Nat.div_add_mod i (wid B)
  refine ⟨decide_eq_true ?_, by rw [Nat.mul_comm]; exact h3.symm, h1, h2⟩
  unfold wid at h1 ⊢
  unfold hei at h2
  generalize i % (B.x1 - B.x0).toNat = u at *
  have : i / (B.x1 - B.x0).toNat < (B.y1 - B.y0).toNat := h2
  generalize i / (B.x1 - B.x0).toNat = v at *
  omega
theorem img_ext {B : R} {g h : Int → Int → X} (e : ∀ x y, hasB B x y = true → g x y = h x y) : img B g = img B h := by
  apply List.ext_getElem?
  intro i
  by_cases hi : i < wid B * hei B
  · rw [img_get B g hi, img_get B h hi, e _ _ (of_pos hi).1]
  · rw [List.getElem?_eq_none (by rw [img_len]; omega), List.getElem?_eq_none (by rw [img_len]; omega)]

/-- the pixels that a list has -/
def unimg (B : R) (l : List X) (x y : Int) : X := l.getD (posN B x y) noX
theorem img_of {B : R} {l : List X} (h : l.length = wid B * hei B) : l = img B (unimg B l) := by
  apply List.ext_getElem?
  intro i
  by_cases hi : i < wid B * hei B
  · rw [img_get B _ hi]
    obtain ⟨h1, h2, h3, h4⟩ := of_pos hi
    have e : posN B (B.x0 + (i % wid B : Nat)) (B.y0 + (i / wid B : Nat)) = i := by
      unfold posN
      have e1 : ∀ (a : Int) (k : Nat), (a + (k : Int) - a).toNat = k := fun a k => by omega
      rw [e1, e1]
      exact h2.symm
    unfold unimg
    rw [e, List.getD_eq_getElem?_getD, List.getElem?_eq_getElem (by omega)]
    rfl
  · rw [List.getElem?_eq_none (by omega), List.getElem?_eq_none (by rw [img_len]; omega)]

/-- so many points -/
theorem area_len {B : R} (he : empB B = false) (ha : area B < 2305843009213693952) : ((wid B * hei B : Nat) : Int) = area B := by
  obtain ⟨h1, h2⟩ := of_some he
  rw [area_of he] at ha ⊢
  have e1 : ((wid B : Nat) : Int) = B.x1 - B.x0 := by unfold wid; omega
  have e2 : ((hei B : Nat) : Int) = B.y1 - B.y0 := by unfold hei; omega
  rw [Int.natCast_mul, e1, e2]
  unfold mn at *
  omega
theorem img_nil (g : Int → Int → X) : img nil g = [] := rfl

/-- a row's part -/
theorem img_line {B : R} {y a b : Int} (g : Int → Int → X) (h1 : B.y0 ≤ y ∧ y < B.y1) (h2 : B.x0 ≤ a) (h3 : a ≤ b) (h4 : b ≤ B.x1) :
    ((img B g).drop (posN B a y)).take (b - a).toNat = line (fun x => g x y) a b := by
  apply List.ext_getElem?
  intro j
  by_cases hj : j < (b - a).toNat
  · rw [line_get _ _ _ hj, List.getElem?_take, if_pos hj, List.getElem?_drop]
    have e : posN B a y + j = posN B (a + (j : Nat)) y := by unfold posN; omega
    rw [e]
    exact at_img g (decide_eq_true (by omega))
  · rw [List.getElem?_eq_none (by rw [List.length_take]; omega), List.getElem?_eq_none (by rw [line_len]; omega)]
theorem pos_end {B : R} {y a b : Int} (h1 : B.y0 ≤ y ∧ y < B.y1) (h2 : B.x0 ≤ a) (h3 : a ≤ b) (h4 : b ≤ B.x1) : posN B a y + (b - a).toNat ≤ wid B * hei B := by
  have hv : (y - B.y0).toNat < hei B := by unfold hei; omega
  have : ((y - B.y0).toNat + 1) * wid B ≤ hei B * wid B := Nat.mul_le_mul_right _ hv
  rw [Nat.add_mul, Nat.mul_comm (hei B)] at this
  unfold posN
  have : (a - B.x0).toNat + (b - a).toNat ≤ wid B := by unfold wid; omega
  omega
/-- .. and written -/
def putG (g : Int → Int → X) (y a b : Int) (h : Int → X) (x' y' : Int) : X := if y' = y ∧ a ≤ x' ∧ x' < b then h x' else g x' y'
theorem img_put {B : R} {y a b : Int} (g : Int → Int → X) (h : Int → X) (h1 : B.y0 ≤ y ∧ y < B.y1) (h2 : B.x0 ≤ a) (h3 : a ≤ b) (h4 : b ≤ B.x1) :
    setL (img B g) (posN B a y) (line h a b) = img B (putG g y a b h) := by
  have hend := pos_end h1 h2 h3 h4
  unfold setL
  rw [line_len]
  have hs : ((img B g).take (posN B a y)).length = posN B a y := by rw [List.length_take, img_len]; omega
  apply List.ext_getElem?
  intro i
  by_cases hi : i < wid B * hei B
  · rw [img_get B _ hi]
    obtain ⟨b1, b2, b3, b4⟩ := of_pos hi
    have hb := of_decide_eq_true b1
    unfold putG
    have hpe : posN B a y = (y - B.y0).toNat * wid B + (a - B.x0).toNat := rfl
    have hw : ((wid B : Nat) : Int) = B.x1 - B.x0 := by unfold wid; omega
    have key : (posN B a y ≤ i ∧ i < posN B a y + (b - a).toNat) ↔ (B.y0 + ((i / wid B : Nat) : Int) = y ∧ a ≤ B.x0 + ((i % wid B : Nat) : Int) ∧ B.x0 + ((i % wid B : Nat) : Int) < b) := by
      rw [hpe]
      generalize i / wid B = v at *
      generalize i % wid B = u at *
      have hor : v < (y - B.y0).toNat ∨ v = (y - B.y0).toNat ∨ (y - B.y0).toNat < v := by omega
      rcases hor with hv | hv | hv
      · have : (v + 1) * wid B ≤ (y - B.y0).toNat * wid B := Nat.mul_le_mul_right _ hv
        rw [Nat.add_mul] at this
        omega
      · subst hv
        generalize (y - B.y0).toNat * wid B = t at *
        omega
      · have : ((y - B.y0).toNat + 1) * wid B ≤ v * wid B := Nat.mul_le_mul_right _ hv
        rw [Nat.add_mul] at this
        omega
    by_cases hin : posN B a y ≤ i ∧ i < posN B a y + (b - a).toNat
    · rw [if_pos (key.1 hin), List.append_assoc, List.getElem?_append_right (by rw [hs]; exact hin.1), hs, List.getElem?_append_left (by rw [line_len]; omega), line_get _ _ _ (by omega)]
      have := (key.1 hin)
      congr 2
      rw [hpe] at hin ⊢
      generalize i / wid B = v at *
      generalize i % wid B = u at *
      obtain ⟨k1, k2, k3⟩ := this
      have : v = (y - B.y0).toNat := by omega
      subst this
      generalize (y - B.y0).toNat * wid B = t at *
      omega
    · rw [if_neg (fun h => hin (key.2 h)), ← img_get B g hi]
      by_cases hlt : i < posN B a y
      · rw [List.append_assoc, List.getElem?_append_left (by rw [hs]; exact hlt), List.getElem?_take, if_pos hlt]
      · rw [List.append_assoc, List.getElem?_append_right (by rw [hs]; omega), hs, List.getElem?_append_right (by rw [line_len]; omega), line_len, List.getElem?_drop]
        congr 1
        omega
  · rw [List.getElem?_eq_none (by rw [List.length_append, List.length_append, hs, line_len, List.length_drop, img_len]; omega), List.getElem?_eq_none (by rw [img_len]; omega)]

theorem setL_len {l news : List X} {s : Nat} (h : s + news.length ≤ l.length) : (setL l s news).length = l.length := by
  unfold setL; rw [List.length_append, List.length_append, List.length_take, List.length_drop]; omega

/-- a pixel, wherever -/
def atX (B : R) (g : Int → Int → X) (x y : Int) : X := if hasB B x y = true then g x y else noX
def fillG (r : R) (p : X) (g : Int → Int → X) (x y : Int) : X := if hasB r x y = true then p else g x y
def copyG (r : R) (f : Int → Int → X) (dx dy : Int) (g : Int → Int → X) (x y : Int) : X := if hasB r x y = true then f (x - dx) (y - dy) else g x y

/-- one pixel more -/
theorem take_more {B : R} {x y : Int} (g : Int → Int → X) (hb : hasB B x y = true) : (img B g).take (posN B x y) ++ [g x y] = (img B g).take (posN B x y + 1) := by
  have h1 := (pos_of hb).1
  have := at_img g hb
  rw [List.take_add_one, this]
  rfl
theorem pos_next (B : R) {x y : Int} (hx : B.x0 ≤ x) : posN B (x + 1) y = posN B x y + 1 := by unfold posN; omega
theorem pos_row (B : R) {y : Int} (hy : B.y0 ≤ y) (hx : B.x0 < B.x1) : posN B B.x1 y = posN B B.x0 (y + 1) := by
  unfold posN
  rw [show (y + 1 - B.y0).toNat = (y - B.y0).toNat + 1 by omega, Nat.add_mul]
  unfold wid
  omega
theorem pos_first (B : R) : posN B B.x0 B.y0 = 0 := by unfold posN; simp
theorem pos_last (B : R) : posN B B.x0 B.y1 = wid B * hei B := by unfold posN hei; simp [Nat.mul_comm]
theorem pos_int {B : R} {x y : Int} (hx : B.x0 ≤ x) (hy : B.y0 ≤ y) (hw : B.x0 ≤ B.x1) : ((posN B x y : Nat) : Int) = (y - B.y0) * (B.x1 - B.x0) + (x - B.x0) := by
  unfold posN
  rw [Int.natCast_add, Int.natCast_mul, show (((y - B.y0).toNat : Nat) : Int) = y - B.y0 by omega, show (((x - B.x0).toNat : Nat) : Int) = x - B.x0 by omega]
  unfold wid
  rw [show (((B.x1 - B.x0).toNat : Nat) : Int) = B.x1 - B.x0 by omega]
end Go.Proofs.Ytfgfgfmimejpdaa.Num
