/- The document's blurred box, as plain numbers; small boxes. -/
import Derived.Test.YtfgfgfmimejpdaaBoxH
namespace Go.Proofs.Ytfgfgfmimejpdaa
open Num Go.RowKit
set_option linter.unusedVariables false
set_option linter.unusedSimpArgs false

theorem half_orN {r : R} (h : Half r) : Half (orN r) := by
  rcases orN_or r with e | e <;> rw [e]
  · unfold Half nil; decide
  · exact h
/-- a box with the rows that are wanted above and below -/
theorem growY {D : R} {ry : Nat} (hD : Half D) (hy : ry ≤ 255) : orN (grow D 0 (ry : Int) 0 (ry : Int)) = grow D 0 (ry : Int) 0 (ry : Int) ∧ Ok (grow D 0 (ry : Int) 0 (ry : Int)) ∧ (empB D = false → grow D 0 (ry : Int) 0 (ry : Int) = ⟨D.x0, D.y0 - (ry : Int), D.x1, D.y1 + (ry : Int)⟩) ∧ (empB D = true → grow D 0 (ry : Int) 0 (ry : Int) = nil) := by
  rcases eD : empB D with _ | _
  · obtain ⟨d1, d2⟩ := of_some eD
    have e : grow D 0 (ry : Int) 0 (ry : Int) = ⟨D.x0, D.y0 - (ry : Int), D.x1, D.y1 + (ry : Int)⟩ := by
      unfold grow
      rw [if_neg (by rw [eD]; simp)]
      unfold cutR
      unfold Half at hD
      rw [orN_no (emp_no (by dsimp only; unfold cutN mx mn; omega) (by dsimp only; unfold cutN mx mn; omega))]
      apply R_ext <;> dsimp only <;> unfold cutN mx mn <;> omega
    rw [e]
    refine ⟨orN_no (emp_no d1 (by dsimp only; omega)), ?_, fun _ => rfl, (fun h => by cases h)⟩
    unfold Half at hD
    unfold Ok
    dsimp only
    omega
  · have e : grow D 0 (ry : Int) 0 (ry : Int) = nil := by unfold grow; rw [if_pos eD]
    rw [e]
    exact ⟨rfl, ok_nil, (fun h => by cases h), fun _ => rfl⟩
theorem growY_area {D : R} {rx ry : Nat} (hD : Half D) (hx : rx ≤ 255) (hy : ry ≤ 255) : area (grow D 0 (ry : Int) 0 (ry : Int)) ≤ area (grow D (rx : Int) (ry : Int) (rx : Int) (ry : Int)) := by
  obtain ⟨-, -, h3, h4⟩ := growY (ry := ry) hD hy
  rcases eD : empB D with _ | _
  · obtain ⟨d1, d2⟩ := of_some eD
    rw [h3 eD]
    unfold grow
    rw [if_neg (by rw [eD]; simp)]
    unfold cutR
    unfold Half at hD
    rw [orN_no (emp_no (by dsimp only; unfold cutN mx mn; omega) (by dsimp only; unfold cutN mx mn; omega))]
    apply area_in
    dsimp only
    unfold cutN
    unfold mx mn at *
    omega
  · rw [h4 eD, area_nil]
    exact (area_bd _).1
theorem refbox_img {D : R} {ry : Nat} (hD : Half D) (hy : ry ≤ 255) (u : Int → Int → X) : img (orN D) (colG (atX (grow D 0 (ry : Int) 0 (ry : Int)) u) ry) = img (orN D) (colG u ry) := by
  obtain ⟨-, -, h3, h4⟩ := growY (ry := ry) hD hy
  rcases eD : empB D with _ | _
  · rw [orN_no eD, h3 eD]
    apply img_ext
    intro x y hb
    have hb := of_decide_eq_true hb
    apply col_ext
    intro v h1 h2
    unfold atX
    rw [if_pos (show hasB _ x v = true from decide_eq_true (by dsimp only; omega))]
  · rw [orN_yes eD]
    rfl
end Go.Proofs.Ytfgfgfmimejpdaa
