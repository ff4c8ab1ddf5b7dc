/- Shadows: the numbers. -/
import Derived.Test.YtfgfgfmimejpdaaMoveNum
import Derived.Test.YtfgfgfmimejpdaaOver
import Derived.Test.YtfgfgfmimejpdaaFine
import Derived.Test.YtfgfgfmimejpdaaRightB
namespace Go.Proofs.Ytfgfgfmimejpdaa
open Num Go.RowKit
set_option linter.unusedVariables false
set_option linter.unusedSimpArgs false

namespace Num
/-- what is soft, where it falls -/
def softX (B : R) (f : Int → Int → X) (dx dy : Int) (rx ry : Nat) (x y : Int) : X := blurG (atX B f) rx ry (x - dx) (y - dy)
theorem grow_has {D : R} {rx ry : Nat} {x y a b : Int} (hD : Half D) (hx : rx ≤ 255) (hy : ry ≤ 255) (hb : hasB D x y = true) (h1 : x - (rx : Int) ≤ a) (h2 : a ≤ x + (rx : Int)) (h3 : y - (ry : Int) ≤ b) (h4 : b ≤ y + (ry : Int)) : hasB (grow D (rx : Int) (ry : Int) (rx : Int) (ry : Int)) a b = true := by
  have hb' := hasB_iff.1 hb
  have he : empB D = false := emp_no (by omega) (by omega)
  unfold Half at hD
  unfold grow
  rw [if_neg (by simp [he])]
  unfold cutR
  rw [has_orN]
  apply hasB_iff.2
  dsimp only
  unfold cutN mx mn
  omega
theorem soft_img {B D : R} {f : Int → Int → X} {n rx ry : Nat} {dx dy : Int} (hB : bufB B n = true) (hn : n ≤ 5000) (hD : Half D) (hx : rx ≤ 255) (hy : ry ≤ 255) (hdx : -33554432 ≤ dx ∧ dx ≤ 33554432) (hdy : -33554432 ≤ dy ∧ dy ≤ 33554432) :
    img (orN D) (blurG (atX (orN (meet (grow D (rx : Int) (ry : Int) (rx : Int) (ry : Int)) (moveR B dx dy))) (fun x y => atX B f (x - dx) (y - dy))) rx ry) = img (orN D) (softX B f dx dy rx ry) := by
  apply img_ext
  intro x y hb
  rw [has_orN] at hb
  unfold softX
  rw [← blur_move (atX B f) dx dy]
  apply blur_ext
  intro a b h1 h2 h3 h4
  have hg := grow_has hD hx hy hb h1 h2 h3 h4
  have hb' := hasB_iff.1 hb
  rcases c : hasB (orN (meet (grow D (rx : Int) (ry : Int) (rx : Int) (ry : Int)) (moveR B dx dy))) a b with _ | _
  · have e1 : atX (orN (meet (grow D (rx : Int) (ry : Int) (rx : Int) (ry : Int)) (moveR B dx dy))) (fun x y => atX B f (x - dx) (y - dy)) a b = noX := by
      unfold atX
      rw [c]
      rfl
    rw [e1]
    rcases c2 : hasB B (a - dx) (b - dy) with _ | _
    · unfold atX
      rw [c2]
      rfl
    · exfalso
      have hc := hasB_iff.1 c2
      have he : empB B = false := emp_no (by omega) (by omega)
      rcases buf_cases hB with ⟨e, -, -⟩ | ⟨-, hr, ha⟩
      · rw [e] at he; cases he
      · obtain ⟨s1, s2⟩ := area_side he (by omega)
        unfold Half at hD
        have hm := has_move5 (a := a) (b := b) (ok_of_right hr) he s1 s2 hdx hdy (by omega) (by omega)
        rw [has_orN, has_meet2, hg, hm, c2] at c
        cases c
  · have e1 : atX (orN (meet (grow D (rx : Int) (ry : Int) (rx : Int) (ry : Int)) (moveR B dx dy))) (fun x y => atX B f (x - dx) (y - dy)) a b = atX B f (a - dx) (b - dy) := by
      show (if hasB (orN (meet (grow D (rx : Int) (ry : Int) (rx : Int) (ry : Int)) (moveR B dx dy))) a b = true then atX B f (a - dx) (b - dy) else noX) = _
      rw [if_pos c]
    rw [e1]
theorem shift_img {D : R} {dx dy : Int} (G : Int → Int → X) (s : X → X) : (img ⟨D.x0 - dx, D.y0 - dy, D.x1 - dx, D.y1 - dy⟩ G).map s = img D (fun x y => s (G (x - dx) (y - dy))) := by
  have hw : wid ⟨D.x0 - dx, D.y0 - dy, D.x1 - dx, D.y1 - dy⟩ = wid D := by unfold wid; dsimp only; congr 1; omega
  have hh : hei ⟨D.x0 - dx, D.y0 - dy, D.x1 - dx, D.y1 - dy⟩ = hei D := by unfold hei; dsimp only; congr 1; omega
  unfold img
  rw [hw, hh, List.map_map]
  apply List.map_congr_left
  intro i _
  dsimp only [Function.comp]
  have e1 : D.x0 - dx + ((i % wid D : Nat) : Int) = D.x0 + ((i % wid D : Nat) : Int) - dx := by omega
  have e2 : D.y0 - dy + ((i / wid D : Nat) : Int) = D.y0 + ((i / wid D : Nat) : Int) - dy := by omega
  rw [e1, e2]
theorem shift_emp {D : R} {dx dy : Int} (h : empB D = false) : empB ⟨D.x0 - dx, D.y0 - dy, D.x1 - dx, D.y1 - dy⟩ = false := by
  obtain ⟨e1, e2⟩ := of_some h
  exact emp_no (by dsimp only; omega) (by dsimp only; omega)
theorem map_img (Q : R) (G : Int → Int → X) (s : X → X) : (img Q G).map s = img Q (fun x y => s (G x y)) := by
  unfold img
  rw [List.map_map]
  rfl
end Num
end Go.Proofs.Ytfgfgfmimejpdaa
