/- Boxes that are grown, and what is made in them again, as plain numbers. -/
import Derived.Test.YtfkbdpbgeglgaaaKit
namespace Go.Proofs.Ytfkbdpbgeglgaaa
open Num Go.RowKit
set_option linter.unusedVariables false
set_option linter.unusedSimpArgs false

/-- within half of the plane, as the document has it -/
def Near (r : R) : Prop := (-33554432 ≤ r.x0 ∧ r.x0 ≤ 33554432) ∧ (-33554432 ≤ r.y0 ∧ r.y0 ≤ 33554432) ∧ (-33554432 ≤ r.x1 ∧ r.x1 ≤ 33554432) ∧ (-33554432 ≤ r.y1 ∧ r.y1 ≤ 33554432)
theorem near_of {B : R} {n : Nat} {D : R} {rx ry : Int} (h : fineQ B n D rx ry = true) : Near D ∧ area (grow D rx ry rx ry) ≤ 600 ∧ (0 ≤ rx ∧ rx ≤ 8) ∧ (0 ≤ ry ∧ ry ≤ 8) := by
  unfold fineQ fineF at h
  simp only [Bool.and_eq_true, decide_eq_true_eq] at h
  obtain ⟨⟨⟨⟨h1, h2⟩, h3⟩, h4⟩, ⟨h5, h6⟩, h7⟩ := h
  exact ⟨h6, h7, by omega, by omega⟩
/-- a box of few points, grown -/
structure Gw (D E : R) (kx ky : Nat) : Prop where
  half : Half E
  orn : orN E = E
  some : empB D = false → E = ⟨D.x0 - (kx : Int), D.y0 - (ky : Int), D.x1 + (kx : Int), D.y1 + (ky : Int)⟩
  none : empB D = true → E = nil
theorem grow_of {D : R} (hD : Near D) {kx ky : Nat} (hx : kx ≤ 100) (hy : ky ≤ 100) : Gw D (grow D (kx : Int) (ky : Int) (kx : Int) (ky : Int)) kx ky := by
  rcases eD : empB D with _ | _
  · obtain ⟨d1, d2⟩ := of_some eD
    have e : grow D (kx : Int) (ky : Int) (kx : Int) (ky : Int) = ⟨D.x0 - (kx : Int), D.y0 - (ky : Int), D.x1 + (kx : Int), D.y1 + (ky : Int)⟩ := by
      unfold grow
      rw [if_neg (by rw [eD]; simp)]
      unfold cutR
      unfold Near at hD
      rw [orN_no (emp_no (by dsimp only; unfold cutN mx mn; omega) (by dsimp only; unfold cutN mx mn; omega))]
      apply R_ext <;> dsimp only <;> unfold cutN mx mn <;> omega
    rw [e]
    refine ⟨?_, orN_no (emp_no (by dsimp only; omega) (by dsimp only; omega)), fun _ => rfl, (fun h => by cases h.symm.trans eD)⟩
    unfold Near at hD
    unfold Half
    dsimp only
    omega
  · have e : grow D (kx : Int) (ky : Int) (kx : Int) (ky : Int) = nil := by unfold grow; rw [if_pos eD]
    rw [e]
    refine ⟨by unfold Half nil; decide, rfl, (fun h => by cases h.symm.trans eD), fun _ => rfl⟩
theorem Near.half {D : R} (h : Near D) : Half D := by unfold Near at h; unfold Half; omega
/-- as many points as sides -/
theorem area_sides {R0 : R} (h : empB R0 = false) {P Q : Int} (hP : R0.x1 - R0.x0 = P) (hQ : R0.y1 - R0.y0 = Q) (hPQ : P * Q ≤ 100000) : area R0 = P * Q := by
  rw [area_of h]
  subst hP
  subst hQ
  unfold mn
  omega
theorem sides_area {R0 : R} (h : empB R0 = false) {P Q : Int} (hP : R0.x1 - R0.x0 = P) (hQ : R0.y1 - R0.y0 = Q) (ha : area R0 ≤ 100000) : P * Q = area R0 := by
  rw [area_of h] at ha ⊢
  subst hP
  subst hQ
  unfold mn at *
  omega
/-- grown once more by as much: no more than four times the points -/
theorem area_twice {D : R} (hD : Near D) {kx ky : Nat} (hx : kx ≤ 100) (hy : ky ≤ 100) (ha : area (grow D (kx : Int) (ky : Int) (kx : Int) (ky : Int)) ≤ 600) {E : R} (hE : E = grow D (kx : Int) (ky : Int) (kx : Int) (ky : Int)) : area (grow E (kx : Int) (ky : Int) (kx : Int) (ky : Int)) ≤ 5000 := by
  have hG := grow_of hD hx hy
  rw [← hE] at hG ha
  rcases eD : empB D with _ | _
  · obtain ⟨d1, d2⟩ := of_some eD
    have e := hG.some eD
    have eE : empB E = false := by rw [e]; exact emp_no (by dsimp only; omega) (by dsimp only; omega)
    have hp := sides_area eE rfl rfl (by omega)
    have e2 : grow E (kx : Int) (ky : Int) (kx : Int) (ky : Int) = ⟨E.x0 - (kx : Int), E.y0 - (ky : Int), E.x1 + (kx : Int), E.y1 + (ky : Int)⟩ := by
      have hE1 := of_some eE
      unfold grow
      rw [if_neg (by rw [eE]; simp)]
      unfold cutR
      have hh := hG.half
      unfold Half at hh
      rw [orN_no (emp_no (by dsimp only; unfold cutN mx mn; omega) (by dsimp only; unfold cutN mx mn; omega))]
      apply R_ext <;> dsimp only <;> unfold cutN mx mn <;> omega
    have q1 : E.x1 - E.x0 = D.x1 - D.x0 + 2 * (kx : Int) := by rw [e]; dsimp only; omega
    have q2 : E.y1 - E.y0 = D.y1 - D.y0 + 2 * (ky : Int) := by rw [e]; dsimp only; omega
    have h4 : (E.x1 - E.x0 + 2 * (kx : Int)) * (E.y1 - E.y0 + 2 * (ky : Int)) ≤ (2 * (E.x1 - E.x0)) * (2 * (E.y1 - E.y0)) := Int.mul_le_mul (by omega) (by omega) (by omega) (by omega)
    have h5 : (2 * (E.x1 - E.x0)) * (2 * (E.y1 - E.y0)) = 4 * ((E.x1 - E.x0) * (E.y1 - E.y0)) := by
      rw [Int.mul_assoc, Int.mul_left_comm (E.x1 - E.x0) 2, ← Int.mul_assoc]
      rfl
    have h6 : area (grow E (kx : Int) (ky : Int) (kx : Int) (ky : Int)) = (E.x1 - E.x0 + 2 * (kx : Int)) * (E.y1 - E.y0 + 2 * (ky : Int)) := by
      rw [e2]
      exact area_sides (emp_no (by dsimp only; omega) (by dsimp only; omega)) (by dsimp only; omega) (by dsimp only; omega) (by omega)
    omega
  · rw [hG.none eD, grow_nil]
    decide
/-- grown twice -/
theorem grow_grow {D : R} (hD : Near D) {kx ky jx jy : Nat} (hx : kx ≤ 100) (hy : ky ≤ 100) (hjx : jx ≤ 100) (hjy : jy ≤ 100) : grow (grow D (kx : Int) (ky : Int) (kx : Int) (ky : Int)) (jx : Int) (jy : Int) (jx : Int) (jy : Int) = grow D ((jx + kx : Nat) : Int) ((jy + ky : Nat) : Int) ((jx + kx : Nat) : Int) ((jy + ky : Nat) : Int) := by
  have hG := grow_of hD hx hy
  generalize grow D (kx : Int) (ky : Int) (kx : Int) (ky : Int) = E at *
  rcases eD : empB D with _ | _
  · obtain ⟨d1, d2⟩ := of_some eD
    have e := hG.some eD
    have eE : empB E = false := by rw [e]; exact emp_no (by dsimp only; omega) (by dsimp only; omega)
    unfold Near at hD
    subst e
    unfold grow
    rw [if_neg (by rw [eE]; simp), if_neg (by rw [eD]; simp)]
    unfold cutR
    rw [orN_no (emp_no (by dsimp only; unfold cutN mx mn; omega) (by dsimp only; unfold cutN mx mn; omega))]
    rw [orN_no (emp_no (by dsimp only; unfold cutN mx mn; omega) (by dsimp only; unfold cutN mx mn; omega))]
    apply R_ext <;> dsimp only <;> unfold cutN mx mn <;> omega
  · rw [hG.none eD, grow_nil]
    unfold grow
    rw [if_pos eD]
/-- what is alike around makes alike -/
theorem mor1_ext {t : Bool} {U V : Int → Int → Int} {rx ry : Nat} {x y : Int} (h : ∀ u v, x - (rx : Int) ≤ u → u < x + (rx : Int) + 1 → y - (ry : Int) ≤ v → v < y + (ry : Int) + 1 → U u v = V u v) : mor1 t U rx ry x y = mor1 t V rx ry x y := by
  apply mor_eq
  obtain ⟨⟨u, v, a1, a2, a3, a4, a5⟩, a6⟩ := mor_of t V rx ry x y
  refine ⟨⟨u, v, a1, a2, a3, a4, by rw [h u v a1 a2 a3 a4]; exact a5⟩, fun a b c1 c2 c3 c4 => ?_⟩
  rw [h a b c1 c2 c3 c4]
  exact a6 a b c1 c2 c3 c4
theorem mor_ext {t : Bool} {g h : Int → Int → X} {rx ry : Nat} {x y : Int} (e : ∀ u v, x - (rx : Int) ≤ u → u < x + (rx : Int) + 1 → y - (ry : Int) ≤ v → v < y + (ry : Int) + 1 → g u v = h u v) : morX t g rx ry x y = morX t h rx ry x y := by
  unfold morX
  apply X_ext
  · exact mor1_ext (U := fun u v => (g u v).c0) (V := fun u v => (h u v).c0) (fun u v a b c d => by rw [e u v a b c d])
  · exact mor1_ext (U := fun u v => (g u v).c1) (V := fun u v => (h u v).c1) (fun u v a b c d => by rw [e u v a b c d])
  · exact mor1_ext (U := fun u v => (g u v).c2) (V := fun u v => (h u v).c2) (fun u v a b c d => by rw [e u v a b c d])
  · exact mor1_ext (U := fun u v => (g u v).c3) (V := fun u v => (h u v).c3) (fun u v a b c d => by rw [e u v a b c d])
/-- in a box that was grown by as much, nothing is missed -/
theorem mor_in {t : Bool} {D E : R} {kx ky : Nat} (hG : Gw D E kx ky) (u : Int → Int → X) {x y : Int} (hb : hasB D x y = true) : morX t (atX E u) kx ky x y = morX t u kx ky x y := by
  have hb2 := of_decide_eq_true hb
  have e := hG.some (emp_no (by omega) (by omega))
  apply mor_ext
  intro a b h1 h2 h3 h4
  unfold atX
  rw [if_pos]
  rw [e]
  exact decide_eq_true (by dsimp only; omega)
/-- by some and by others is by the sums -/
theorem mor1_twice (t : Bool) (U : Int → Int → Int) (rx ry kx ky : Nat) (x y : Int) : mor1 t (fun u v => mor1 t U rx ry u v) kx ky x y = mor1 t U (rx + kx) (ry + ky) x y := by
  symm
  apply mor_eq
  obtain ⟨⟨u, v, a1, a2, a3, a4, a5⟩, a6⟩ := mor_of t (fun u v => mor1 t U rx ry u v) kx ky x y
  obtain ⟨⟨p, q, b1, b2, b3, b4, b5⟩, -⟩ := mor_of t U rx ry u v
  refine ⟨⟨p, q, by omega, by omega, by omega, by omega, b5.trans a5⟩, fun a b c1 c2 c3 c4 => ?_⟩
  obtain ⟨a', ha1, ha2, ha3, ha4⟩ : ∃ a', x - (kx : Int) ≤ a' ∧ a' < x + (kx : Int) + 1 ∧ a' - (rx : Int) ≤ a ∧ a < a' + (rx : Int) + 1 := by
    by_cases h1 : a < x - (kx : Int)
    · exact ⟨x - (kx : Int), by omega, by omega, by omega, by omega⟩
    · by_cases h2 : x + (kx : Int) < a
      · exact ⟨x + (kx : Int), by omega, by omega, by omega, by omega⟩
      · exact ⟨a, by omega, by omega, by omega, by omega⟩
  obtain ⟨b', hb1, hb2, hb3, hb4⟩ : ∃ b', y - (ky : Int) ≤ b' ∧ b' < y + (ky : Int) + 1 ∧ b' - (ry : Int) ≤ b ∧ b < b' + (ry : Int) + 1 := by
    by_cases h1 : b < y - (ky : Int)
    · exact ⟨y - (ky : Int), by omega, by omega, by omega, by omega⟩
    · by_cases h2 : y + (ky : Int) < b
      · exact ⟨y + (ky : Int), by omega, by omega, by omega, by omega⟩
      · exact ⟨b, by omega, by omega, by omega, by omega⟩
  exact leT_trans ((mor_of t U rx ry a' b').2 a b ha3 ha4 hb3 hb4) (a6 a' b' ha1 ha2 hb1 hb2)
theorem mor_twice (t : Bool) (g : Int → Int → X) (rx ry kx ky : Nat) (x y : Int) : morX t (fun u v => morX t g rx ry u v) kx ky x y = morX t g (rx + kx) (ry + ky) x y := by
  unfold morX
  apply X_ext
  · exact mor1_twice t (fun u v => (g u v).c0) rx ry kx ky x y
  · exact mor1_twice t (fun u v => (g u v).c1) rx ry kx ky x y
  · exact mor1_twice t (fun u v => (g u v).c2) rx ry kx ky x y
  · exact mor1_twice t (fun u v => (g u v).c3) rx ry kx ky x y
theorem twice_img {t : Bool} {D E : R} {kx ky : Nat} (hG : Gw D E kx ky) (g : Int → Int → X) (rx ry : Nat) : img (orN D) (morX t (atX E (morX t g rx ry)) kx ky) = img (orN D) (morX t g (rx + kx) (ry + ky)) := by
  apply img_ext
  intro x y hb
  rw [has_orN] at hb
  rw [mor_in hG _ hb]
  exact mor_twice t g rx ry kx ky x y
end Go.Proofs.Ytfkbdpbgeglgaaa
