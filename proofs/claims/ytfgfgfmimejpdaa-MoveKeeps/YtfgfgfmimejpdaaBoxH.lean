/- Which parts of a picture a blurred box is made of, as plain numbers. -/
import Derived.Test.YtfgfgfmimejpdaaCols
import Derived.Test.YtfgfgfmimejpdaaRGrow
namespace Go.Proofs.Ytfgfgfmimejpdaa
open Num Go.RowKit
set_option linter.unusedVariables false
set_option linter.unusedSimpArgs false

/-- within half of the plane -/
def Half (r : R) : Prop := (-33554432 ≤ r.x0 ∧ r.x0 ≤ 33554432) ∧ (-33554432 ≤ r.y0 ∧ r.y0 ≤ 33554432) ∧ (-33554432 ≤ r.x1 ∧ r.x1 ≤ 33554432) ∧ (-33554432 ≤ r.y1 ∧ r.y1 ≤ 33554432)
theorem Half.ok {r : R} (h : Half r) : Ok r := by unfold Half at h; unfold Ok; omega

theorem R_ext {a b : R} (h0 : a.x0 = b.x0) (h1 : a.y0 = b.y0) (h2 : a.x1 = b.x1) (h3 : a.y1 = b.y1) : a = b := by
  cases a; cases b; simp_all
theorem grow_nil (a b c d : Int) : grow nil a b c d = nil := by unfold grow; rw [if_pos (by decide)]
theorem meet_nil_l (b : R) : meet nil b = nil := by
  unfold meet
  apply orN_yes
  apply emp_yes
  unfold mx mn nil
  dsimp only
  omega
theorem meet_nil_r (a : R) : meet a nil = nil := by
  unfold meet
  apply orN_yes
  apply emp_yes
  unfold mx mn nil
  dsimp only
  omega
/-- the area, and the rows -/
def areaR (Z B : R) (rx ry : Nat) : R := meet Z (grow B (rx : Int) (ry : Int) (rx : Int) (ry : Int))
def rowsR (M B : R) (rx ry : Nat) : R := meet (grow M 0 (ry : Int) 0 (ry : Int)) (grow B (rx : Int) 0 (rx : Int) 0)

theorem area_some {Z B : R} {rx ry : Nat} (hZ : Half Z) (hB : Ok B) (eB : empB B = false) (hx : rx ≤ 255) (hy : ry ≤ 255) :
    areaR Z B rx ry = orN ⟨mx Z.x0 (B.x0 - (rx : Int)), mx Z.y0 (B.y0 - (ry : Int)), mn Z.x1 (B.x1 + (rx : Int)), mn Z.y1 (B.y1 + (ry : Int))⟩ := by
  obtain ⟨b1, b2⟩ := of_some eB
  unfold areaR grow
  rw [if_neg (by rw [eB]; simp)]
  unfold cutR
  rw [orN_no (emp_no (by dsimp only; unfold Ok at hB; unfold cutN mx mn; omega) (by dsimp only; unfold Ok at hB; unfold cutN mx mn; omega))]
  unfold meet
  congr 1
  unfold Half at hZ
  unfold Ok at hB
  apply R_ext <;> dsimp only <;> unfold cutN mx mn <;> omega
theorem rows_of {M B : R} {rx ry : Nat} (hM : Half M) (eM : empB M = false) (hB : Ok B) (eB : empB B = false) (hx : rx ≤ 255) (hy : ry ≤ 255) :
    rowsR M B rx ry = orN ⟨mx M.x0 (B.x0 - (rx : Int)), mx (M.y0 - (ry : Int)) B.y0, mn M.x1 (B.x1 + (rx : Int)), mn (M.y1 + (ry : Int)) B.y1⟩ := by
  obtain ⟨b1, b2⟩ := of_some eB
  obtain ⟨m1, m2⟩ := of_some eM
  unfold rowsR grow
  rw [if_neg (by rw [eM]; simp), if_neg (by rw [eB]; simp)]
  unfold cutR
  rw [orN_no (emp_no (by dsimp only; unfold Half at hM; unfold cutN mx mn; omega) (by dsimp only; unfold Half at hM; unfold cutN mx mn; omega))]
  rw [orN_no (emp_no (by dsimp only; unfold Ok at hB; unfold cutN mx mn; omega) (by dsimp only; unfold Ok at hB; unfold cutN mx mn; omega))]
  unfold meet
  congr 1
  unfold Half at hM
  unfold Ok at hB
  apply R_ext <;> dsimp only <;> unfold cutN mx mn <;> omega

theorem blur_nil (f : Int → Int → X) (rx ry : Nat) (x y : Int) : blurG (atX nil f) rx ry x y = noX := by
  unfold blurG
  apply col_none
  intro v _ _
  apply row_none
  intro u _ _
  unfold atX
  rw [has_nil]
  rfl
/-- either nothing is to be made, or all lies as it must -/
structure Plan (B Z M Q : R) (rx ry : Nat) : Prop where
  fits : Fits B Q rx
  lay : Lay Z M Q ry
  oq : Ok Q
  some : empB Q = false
  sub : Q.x0 = M.x0 ∧ Q.x1 = M.x1 ∧ Q.y0 = mx (M.y0 - (ry : Int)) B.y0 ∧ Q.y1 = mn (M.y1 + (ry : Int)) B.y1
  m : M = ⟨mx Z.x0 (B.x0 - (rx : Int)), mx Z.y0 (B.y0 - (ry : Int)), mn Z.x1 (B.x1 + (rx : Int)), mn Z.y1 (B.y1 + (ry : Int))⟩
theorem plan_or {B Z : R} {rx ry : Nat} (hB : Ok B) (hBn : B = nil ∨ empB B = false) (hZ : Half Z) (hZn : Z = nil ∨ empB Z = false) (hx : rx ≤ 255) (hy : ry ≤ 255) :
    (areaR Z B rx ry = nil ∧ rowsR (areaR Z B rx ry) B rx ry = nil ∧ ∀ (f : Int → Int → X), img Z (fun _ _ => noX) = img Z (blurG (atX B f) rx ry)) ∨ (empB B = false ∧ Plan B Z (areaR Z B rx ry) (rowsR (areaR Z B rx ry) B rx ry) rx ry) := by
  have hnil : ∀ (b : R), rowsR nil b rx ry = nil := fun b => by unfold rowsR; rw [grow_nil, meet_nil_l]
  rcases hZn with hZn | eZ
  · left
    subst hZn
    have h1 : areaR nil B rx ry = nil := by unfold areaR; rw [meet_nil_l]
    exact ⟨h1, by rw [h1, hnil], fun f => rfl⟩
  rcases hBn with hBn | eB
  · left
    subst hBn
    have h1 : areaR Z nil rx ry = nil := by unfold areaR; rw [grow_nil, meet_nil_r]
    refine ⟨h1, by rw [h1, hnil], fun f => img_ext fun x y hb => ?_⟩
    rw [blur_nil]
  obtain ⟨b1, b2⟩ := of_some eB
  obtain ⟨z1, z2⟩ := of_some eZ
  have hA := area_some hZ hB eB hx hy
  rcases he : empB (⟨mx Z.x0 (B.x0 - (rx : Int)), mx Z.y0 (B.y0 - (ry : Int)), mn Z.x1 (B.x1 + (rx : Int)), mn Z.y1 (B.y1 + (ry : Int))⟩ : R) with _ | _
  · right
    rw [orN_no he] at hA
    obtain ⟨m1, m2⟩ := of_some he
    dsimp only at m1 m2
    have hM : Half (areaR Z B rx ry) := by rw [hA]; unfold Half at *; unfold mx mn at *; dsimp only; omega
    have eM : empB (areaR Z B rx ry) = false := by rw [hA]; exact he
    have hR := rows_of hM eM hB eB hx hy
    have e2 : empB (⟨mx (areaR Z B rx ry).x0 (B.x0 - (rx : Int)), mx ((areaR Z B rx ry).y0 - (ry : Int)) B.y0, mn (areaR Z B rx ry).x1 (B.x1 + (rx : Int)), mn ((areaR Z B rx ry).y1 + (ry : Int)) B.y1⟩ : R) = false := by
      rw [hA]
      apply emp_no <;> dsimp only <;> unfold mx mn at * <;> omega
    rw [orN_no e2] at hR
    have q0 : (rowsR (areaR Z B rx ry) B rx ry).x0 = (areaR Z B rx ry).x0 := by rw [hR, hA]; dsimp only; unfold mx; omega
    have q1 : (rowsR (areaR Z B rx ry) B rx ry).x1 = (areaR Z B rx ry).x1 := by rw [hR, hA]; dsimp only; unfold mn; omega
    have q2 : (rowsR (areaR Z B rx ry) B rx ry).y0 = mx ((areaR Z B rx ry).y0 - (ry : Int)) B.y0 := by rw [hR]
    have q3 : (rowsR (areaR Z B rx ry) B rx ry).y1 = mn ((areaR Z B rx ry).y1 + (ry : Int)) B.y1 := by rw [hR]
    have eQ : empB (rowsR (areaR Z B rx ry) B rx ry) = false := by rw [hR]; exact e2
    obtain ⟨s1, s2⟩ := of_some eQ
    generalize rowsR (areaR Z B rx ry) B rx ry = Q at *
    generalize areaR Z B rx ry = M at *
    refine ⟨eB, ⟨?_, ?_, ?_, eQ, ⟨q0, q1, q2, q3⟩, hA⟩⟩
    · have hA0 : M.x0 = mx Z.x0 (B.x0 - (rx : Int)) := by rw [hA]
      have hA2 : M.x1 = mn Z.x1 (B.x1 + (rx : Int)) := by rw [hA]
      refine ⟨?_, ?_, ?_, ?_, ⟨s1, s2⟩, b1⟩ <;> unfold mx mn at * <;> omega
    · have hA0 : M.x0 = mx Z.x0 (B.x0 - (rx : Int)) := by rw [hA]
      have hA1 : M.y0 = mx Z.y0 (B.y0 - (ry : Int)) := by rw [hA]
      have hA2 : M.x1 = mn Z.x1 (B.x1 + (rx : Int)) := by rw [hA]
      have hA3 : M.y1 = mn Z.y1 (B.y1 + (ry : Int)) := by rw [hA]
      refine ⟨hZ.ok, hM.ok, ?_, ?_, ?_, ?_, ?_, hy⟩
      · unfold Ok Half at *; unfold mx mn at *; omega
      · unfold mx mn at *; omega
      · unfold mx mn at *; omega
      · omega
      · unfold mx mn at *; omega
    · unfold Ok Half at *; unfold mx mn at *; omega
  · left
    rw [orN_yes he] at hA
    refine ⟨hA, by rw [hA, hnil], fun f => img_ext fun x y hb => ?_⟩
    rw [blur_far]
    have := of_decide_eq_true hb
    have h3 := of_emp he
    dsimp only at h3
    unfold mx mn at h3
    omega

/-- what is made is what is asked for -/
theorem plan_img {B Z M Q : R} {rx ry : Nat} (h : Plan B Z M Q rx ry) (f : Int → Int → X) : img Z (areaG M (colG (atX Q (rowG (atX B f) rx)) ry) (fun _ _ => noX)) = img Z (blurG (atX B f) rx ry) := by
  apply img_ext
  intro x y hb
  have hb := of_decide_eq_true hb
  obtain ⟨q0, q1, q2, q3⟩ := h.sub
  have m0 : M.x0 = mx Z.x0 (B.x0 - (rx : Int)) := by rw [h.m]
  have m1 : M.y0 = mx Z.y0 (B.y0 - (ry : Int)) := by rw [h.m]
  have m2 : M.x1 = mn Z.x1 (B.x1 + (rx : Int)) := by rw [h.m]
  have m3 : M.y1 = mn Z.y1 (B.y1 + (ry : Int)) := by rw [h.m]
  unfold mx at m0 m1 q2
  unfold mn at m2 m3 q3
  unfold areaG
  by_cases hin : hasB M x y = true
  · rw [if_pos hin]
    have hm := of_decide_eq_true hin
    unfold blurG
    apply col_ext
    intro v h1 h2
    unfold atX
    by_cases hq : hasB Q x v = true
    · rw [if_pos hq]
    · rw [if_neg hq]
      symm
      apply row_none
      intro u h3 h4
      rw [if_neg]
      intro hB
      have hB := of_decide_eq_true hB
      apply hq
      apply decide_eq_true
      omega
  · rw [if_neg hin]
    symm
    apply blur_far
    intro hf
    apply hin
    apply decide_eq_true
    omega
theorem area_in {a b : R} (h : b.x0 ≤ a.x0 ∧ b.y0 ≤ a.y0 ∧ a.x1 ≤ b.x1 ∧ a.y1 ≤ b.y1) : area a ≤ area b := area_le (.inr h)
/-- no more points than the box has with the radii -/
theorem plan_area {B Z M Q : R} {rx ry : Nat} (h : Plan B Z M Q rx ry) (hZ : Half Z) (eZ : empB Z = false) (hx : rx ≤ 255) (hy : ry ≤ 255) : area Q ≤ area (grow Z (rx : Int) (ry : Int) (rx : Int) (ry : Int)) := by
  obtain ⟨q0, q1, q2, q3⟩ := h.sub
  obtain ⟨z1, z2⟩ := of_some eZ
  have m0 : M.x0 = mx Z.x0 (B.x0 - (rx : Int)) := by rw [h.m]
  have m1 : M.y0 = mx Z.y0 (B.y0 - (ry : Int)) := by rw [h.m]
  have m2 : M.x1 = mn Z.x1 (B.x1 + (rx : Int)) := by rw [h.m]
  have m3 : M.y1 = mn Z.y1 (B.y1 + (ry : Int)) := by rw [h.m]
  unfold grow
  rw [if_neg (by rw [eZ]; simp)]
  unfold cutR
  unfold Half at hZ
  rw [orN_no (emp_no (by dsimp only; unfold cutN mx mn; omega) (by dsimp only; unfold cutN mx mn; omega))]
  apply area_in
  dsimp only
  unfold cutN
  unfold mx mn at *
  omega
theorem grow_area {Z : R} {rx ry : Nat} (hZ : Half Z) (hx : rx ≤ 255) (hy : ry ≤ 255) : area Z ≤ area (grow Z (rx : Int) (ry : Int) (rx : Int) (ry : Int)) := by
  rcases eZ : empB Z with _ | _
  · obtain ⟨z1, z2⟩ := of_some eZ
    unfold grow
    rw [if_neg (by rw [eZ]; simp)]
    unfold cutR
    unfold Half at hZ
    rw [orN_no (emp_no (by dsimp only; unfold cutN mx mn; omega) (by dsimp only; unfold cutN mx mn; omega))]
    apply area_in
    dsimp only
    unfold cutN
    unfold mx mn at *
    omega
  · rw [area_no eZ]
    exact (area_bd _).1

/-- rows, or none -/
theorem rows_any (B Q : R) (ao : Option Addr) (n m g off : Nat) (f : Int → Int → X) (r : Nat) (w : World) (hBo : Ok B) (hn : n ≤ 5000) (hr : r ≤ 255) (hV : Vx w ao n m g off (img B f)) (hb : ∀ x y, byteX (f x y)) (hQ : Q = nil ∨ (Fits B Q r ∧ Ok Q ∧ area Q ≤ 5000)) :
    Calls Try.prog 74 #[.agg #[.int .i64 B.x0, .int .i64 B.y0, .int .i64 B.x1, .int .i64 B.y1, .slice ao n m], .agg #[.int .i64 Q.x0, .int .i64 Q.y0, .int .i64 Q.x1, .int .i64 Q.y1], .int .i64 (r : Int)] w fun e w' => RetB w.heap.size w' e Q (img Q (rowG (atX B f) r)) ∧ Below w.heap.size w w' := by
  rcases hQ with hQ | ⟨hF, hQo, ha⟩
  · subst hQ
    exact rows_nil B ao n m r w hBo hr
  · have h1 := vx_len hV
    rw [img_len] at h1
    obtain ⟨h2, h3, h4, h5, ⟨h6, h7⟩, h8⟩ := id hF
    have h9 : 0 < wid B * hei B := Nat.mul_pos (by unfold wid; omega) (by unfold hei; omega)
    obtain rfl := hV.addr (by have := hV.le; omega)
    exact rows_some B Q n m g off f r w hBo hQo ha hn hr hF hV hb
end Go.Proofs.Ytfgfgfmimejpdaa
