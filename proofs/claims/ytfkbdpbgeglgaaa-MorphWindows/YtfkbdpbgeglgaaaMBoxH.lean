/- Which parts of a picture a box is made of, as plain numbers. -/
import Derived.Test.YtfkbdpbgeglgaaaFill
import Derived.Test.YtfkbdpbgeglgaaaRGrow
namespace Go.Proofs.Ytfkbdpbgeglgaaa
open Num Go.RowKit
set_option linter.unusedVariables false
set_option linter.unusedSimpArgs false

/-- within half of the plane -/
def Half (r : R) : Prop := (-33600000 ≤ r.x0 ∧ r.x0 ≤ 33600000) ∧ (-33600000 ≤ r.y0 ∧ r.y0 ≤ 33600000) ∧ (-33600000 ≤ r.x1 ∧ r.x1 ≤ 33600000) ∧ (-33600000 ≤ r.y1 ∧ r.y1 ≤ 33600000)
theorem Half.ok {r : R} (h : Half r) : Ok r := by unfold Half at h; unfold Ok; omega

theorem R_ext {a b : R} (h0 : a.x0 = b.x0) (h1 : a.y0 = b.y0) (h2 : a.x1 = b.x1) (h3 : a.y1 = b.y1) : a = b := by
  cases a; cases b; simp_all
theorem grow_nil (a b c d : Int) : grow nil a b c d = nil := by unfold grow; rw [if_pos (by decide)]
theorem meet_nil_l (b : R) : meet nil b = nil := by
  unfold meet
  apply orN_yes
  apply emp_yes
  unfold mx mn nil
  dsimp only
  omega
theorem meet_nil_r (a : R) : meet a nil = nil := by
  unfold meet
  apply orN_yes
  apply emp_yes
  unfold mx mn nil
  dsimp only
  omega
/-- the area, and the rows -/
def areaR (Z B : R) (rx ry : Nat) : R := meet Z (grow B (rx : Int) (ry : Int) (rx : Int) (ry : Int))
theorem area_some {Z B : R} {rx ry : Nat} (hZ : Half Z) (hB : Ok B) (eB : empB B = false) (hx : rx ≤ 255) (hy : ry ≤ 255) :
    areaR Z B rx ry = orN ⟨mx Z.x0 (B.x0 - (rx : Int)), mx Z.y0 (B.y0 - (ry : Int)), mn Z.x1 (B.x1 + (rx : Int)), mn Z.y1 (B.y1 + (ry : Int))⟩ := by
  obtain ⟨b1, b2⟩ := of_some eB
  unfold areaR grow
  rw [if_neg (by rw [eB]; simp)]
  unfold cutR
  rw [orN_no (emp_no (by dsimp only; unfold Ok at hB; unfold cutN mx mn; omega) (by dsimp only; unfold Ok at hB; unfold cutN mx mn; omega))]
  unfold meet
  congr 1
  unfold Half at hZ
  unfold Ok at hB
  apply R_ext <;> dsimp only <;> unfold cutN mx mn <;> omega
theorem area_in {a b : R} (h : b.x0 ≤ a.x0 ∧ b.y0 ≤ a.y0 ∧ a.x1 ≤ b.x1 ∧ a.y1 ≤ b.y1) : area a ≤ area b := area_le (.inr h)
theorem grow_area {Z : R} {rx ry : Nat} (hZ : Half Z) (hx : rx ≤ 255) (hy : ry ≤ 255) : area Z ≤ area (grow Z (rx : Int) (ry : Int) (rx : Int) (ry : Int)) := by
  rcases eZ : empB Z with _ | _
  · obtain ⟨z1, z2⟩ := of_some eZ
    unfold grow
    rw [if_neg (by rw [eZ]; simp)]
    unfold cutR
    unfold Half at hZ
    rw [orN_no (emp_no (by dsimp only; unfold cutN mx mn; omega) (by dsimp only; unfold cutN mx mn; omega))]
    apply area_in
    dsimp only
    unfold cutN
    unfold mx mn at *
    omega
  · rw [area_no eZ]
    exact (area_bd _).1

/-- where nothing is missing -/
def innerR (Z B : R) (rx ry : Nat) : R := meet Z ⟨B.x0 + (rx : Int), B.y0 + (ry : Int), B.x1 - (rx : Int), B.y1 - (ry : Int)⟩
def areaT (t : Bool) (Z B : R) (rx ry : Nat) : R := if t = true then innerR Z B rx ry else areaR Z B rx ry
/-- a window's part within the box tells all -/
theorem ext2_plane {t : Bool} {B : R} {f : Int → Int → X} {c : X → Int} (hc : c noX = 0) (h0 : ∀ x y, 0 ≤ c (f x y)) {a b p q m : Int} (h : Ext2 t (fun u v => c (f u v)) (mx B.x0 a) (mn B.x1 b) (mx B.y0 p) (mn B.y1 q) m) (ht : t = false ∨ (B.x0 ≤ a ∧ b ≤ B.x1 ∧ B.y0 ≤ p ∧ q ≤ B.y1)) :
    Ext2 t (fun u v => c (atX B f u v)) a b p q m := by
  obtain ⟨⟨x, y, h1, h2, h3, h4, h5⟩, h6⟩ := h
  unfold mx at h1 h3
  unfold mn at h2 h4
  have hin : hasB B x y = true := decide_eq_true (by omega)
  refine ⟨⟨x, y, by omega, by omega, by omega, by omega, ?_⟩, fun u v u1 u2 u3 u4 => ?_⟩
  · unfold atX
    dsimp only
    rw [if_pos hin]
    exact h5
  · unfold atX
    dsimp only
    by_cases hb : hasB B u v = true
    · rw [if_pos hb]
      have := of_decide_eq_true hb
      exact h6 u v (by unfold mx; omega) (by unfold mn; omega) (by unfold mx; omega) (by unfold mn; omega)
    · rw [if_neg hb, hc]
      rcases ht with rfl | ht
      · show 0 ≤ m
        rw [← h5]
        exact h0 x y
      · exact absurd (decide_eq_true (by omega)) hb
theorem ext2_zero {t : Bool} {U : Int → Int → Int} {a b p q : Int} (hab : a < b) (hpq : p < q) (h : ∀ x y, a ≤ x → x < b → p ≤ y → y < q → U x y = 0) : Ext2 t U a b p q 0 :=
  ⟨⟨a, p, by omega, hab, by omega, hpq, h a p (by omega) hab (by omega) hpq⟩, fun x y h1 h2 h3 h4 => by rw [h x y h1 h2 h3 h4]; exact leT_refl _ _⟩
theorem ext2_some {U : Int → Int → Int} {a b p q x y : Int} (h1 : a ≤ x ∧ x < b ∧ p ≤ y ∧ y < q) (h2 : U x y = 0) (h3 : ∀ x y, 0 ≤ U x y) : Ext2 true U a b p q 0 :=
  ⟨⟨x, y, h1.1, h1.2.1, h1.2.2.1, h1.2.2.2, h2⟩, fun u v _ _ _ _ => h3 u v⟩
/-- nothing around, nothing there -/
theorem mor_none {t : Bool} {g : Int → Int → X} {rx ry : Nat} {x y : Int} (h : ∀ u v, x - (rx : Int) ≤ u → u < x + (rx : Int) + 1 → y - (ry : Int) ≤ v → v < y + (ry : Int) + 1 → g u v = noX) : morX t g rx ry x y = noX := by
  unfold morX
  apply X_ext <;> exact mor_eq (ext2_zero (by omega) (by omega) (fun u v h1 h2 h3 h4 => by rw [h u v h1 h2 h3 h4]; rfl))
theorem mor_less {g : Int → Int → X} (hb : ∀ u v, byteX (g u v)) {rx ry : Nat} {x y u v : Int} (h1 : x - (rx : Int) ≤ u ∧ u < x + (rx : Int) + 1 ∧ y - (ry : Int) ≤ v ∧ v < y + (ry : Int) + 1) (h2 : g u v = noX) : morX true g rx ry x y = noX := by
  unfold morX
  apply X_ext
  · exact mor_eq (ext2_some h1 (by rw [h2]; rfl) (fun a b => (hb a b).1.1))
  · exact mor_eq (ext2_some h1 (by rw [h2]; rfl) (fun a b => (hb a b).2.1.1))
  · exact mor_eq (ext2_some h1 (by rw [h2]; rfl) (fun a b => (hb a b).2.2.1.1))
  · exact mor_eq (ext2_some h1 (by rw [h2]; rfl) (fun a b => (hb a b).2.2.2.1))
theorem mor_byte {g : Int → Int → X} (hb : ∀ u v, byteX (g u v)) (t : Bool) (rx ry : Nat) (x y : Int) : byteX (morX t g rx ry x y) := by
  have k : ∀ (U : Int → Int → Int), (∀ u v, 0 ≤ U u v ∧ U u v ≤ 255) → 0 ≤ mor1 t U rx ry x y ∧ mor1 t U rx ry x y ≤ 255 := by
    intro U hU
    obtain ⟨⟨u, v, -, -, -, -, e⟩, -⟩ := mor_of t U rx ry x y
    rw [← e]
    exact hU u v
  exact ⟨k _ (fun u v => (hb u v).1), k _ (fun u v => (hb u v).2.1), k _ (fun u v => (hb u v).2.2.1), k _ (fun u v => (hb u v).2.2.2)⟩
/-- rows, then columns -/
theorem rc_ext {t : Bool} {Z B M : R} {rx ry : Nat} (hF : Fit Z B M rx ry) (f : Int → Int → X) {x y : Int} (hx : M.x0 ≤ x ∧ x < M.x1) (hy : M.y0 ≤ y ∧ y < M.y1) (c : X → Int) (hc : ∀ (h : Int → X) (a b : Int) (p : X), Ext4 t h a b p → Ext t (fun i => c (h i)) a b (c p)) :
    Ext2 t (fun u v => c (f u v)) (mx B.x0 (x - (rx : Int))) (mn B.x1 (x + (rx : Int) + 1)) (mx B.y0 (y - (ry : Int))) (mn B.y1 (y + (ry : Int) + 1)) (c (colE t (rowsQ B M ry) (rowE t B f rx) ry x y)) := by
  obtain ⟨b0, b1, b2⟩ := hF.bx
  obtain ⟨b3, b4, b5⟩ := hF.by_
  have h1 : Ext t (fun v => c (rowE t B f rx x v)) (mx (rowsQ B M ry).y0 (y - (ry : Int))) (mn (rowsQ B M ry).y1 (y + (ry : Int) + 1)) (c (colE t (rowsQ B M ry) (rowE t B f rx) ry x y)) := by
    apply hc (fun v => rowE t B f rx x v)
    unfold colE
    exact extX_of t _ (by unfold rowsQ mx mn; dsimp only; omega)
  rw [show mx (rowsQ B M ry).y0 (y - (ry : Int)) = mx B.y0 (y - (ry : Int)) by unfold rowsQ mx; dsimp only; omega, show mn (rowsQ B M ry).y1 (y + (ry : Int) + 1) = mn B.y1 (y + (ry : Int) + 1) by unfold rowsQ mn; dsimp only; omega] at h1
  refine ext_ext (fun v _ _ => ?_) h1
  apply hc (fun u => f u v)
  unfold rowE
  exact extX_of t _ (by unfold mx mn; omega)
theorem area_morph {t : Bool} {Z B M : R} {rx ry : Nat} (hF : Fit Z B M rx ry) {f : Int → Int → X} (hb : ∀ x y, byteX (f x y)) (ht : t = false ∨ (B.x0 + (rx : Int) ≤ M.x0 ∧ M.x1 ≤ B.x1 - (rx : Int) ∧ B.y0 + (ry : Int) ≤ M.y0 ∧ M.y1 ≤ B.y1 - (ry : Int))) {x y : Int} (hx : M.x0 ≤ x ∧ x < M.x1) (hy : M.y0 ≤ y ∧ y < M.y1) :
    colE t (rowsQ B M ry) (rowE t B f rx) ry x y = morX t (atX B f) rx ry x y := by
  have ht2 : t = false ∨ (B.x0 ≤ x - (rx : Int) ∧ x + (rx : Int) + 1 ≤ B.x1 ∧ B.y0 ≤ y - (ry : Int) ∧ y + (ry : Int) + 1 ≤ B.y1) := by
    rcases ht with ht | ht
    · exact .inl ht
    · exact .inr (by omega)
  symm
  apply X_ext
  · exact mor_eq (ext2_plane (c := X.c0) rfl (fun u v => (hb u v).1.1) (rc_ext hF f hx hy X.c0 (fun h a b p k => k.c0)) ht2)
  · exact mor_eq (ext2_plane (c := X.c1) rfl (fun u v => (hb u v).2.1.1) (rc_ext hF f hx hy X.c1 (fun h a b p k => k.c1)) ht2)
  · exact mor_eq (ext2_plane (c := X.c2) rfl (fun u v => (hb u v).2.2.1.1) (rc_ext hF f hx hy X.c2 (fun h a b p k => k.c2)) ht2)
  · exact mor_eq (ext2_plane (c := X.c3) rfl (fun u v => (hb u v).2.2.2.1) (rc_ext hF f hx hy X.c3 (fun h a b p k => k.c3)) ht2)
theorem mor_nil {f : Int → Int → X} (t : Bool) (rx ry : Nat) (x y : Int) : morX t (atX nil f) rx ry x y = noX := mor_none fun u v _ _ _ _ => by
  unfold atX
  rw [has_nil]
  rfl

/-- either nothing is to be made, or all lies as it must -/
theorem plan_or {t : Bool} {B Z : R} {rx ry : Nat} (hB : Ok B) (hBn : B = nil ∨ empB B = false) (hZ : Half Z) (hZn : Z = nil ∨ empB Z = false) (hx : rx ≤ 255) (hy : ry ≤ 255) {f : Int → Int → X} (hb : ∀ x y, byteX (f x y)) :
    (areaT t Z B rx ry = nil ∧ img Z (fun _ _ => noX) = img Z (morX t (atX B f) rx ry)) ∨ (empB B = false ∧ Fit Z B (areaT t Z B rx ry) rx ry ∧ img Z (colsG (areaT t Z B rx ry) (colE t (rowsQ B (areaT t Z B rx ry) ry) (rowE t B f rx) ry) (fun _ _ => noX) (areaT t Z B rx ry).x1) = img Z (morX t (atX B f) rx ry)) := by
  rcases hZn with hZn | eZ
  · left
    subst hZn
    refine ⟨?_, rfl⟩
    unfold areaT innerR areaR
    split <;> rw [meet_nil_l]
  obtain ⟨z1, z2⟩ := of_some eZ
  rcases hBn with hBn | eB
  · left
    subst hBn
    refine ⟨?_, img_ext fun x y hb => by rw [mor_nil]⟩
    unfold areaT innerR areaR
    split
    · unfold meet
      apply orN_yes
      apply emp_yes
      unfold nil mx mn
      dsimp only
      omega
    · rw [grow_nil, meet_nil_r]
  obtain ⟨b1, b2⟩ := of_some eB
  cases t with
  | false =>
    have hM : areaT false Z B rx ry = orN ⟨mx Z.x0 (B.x0 - (rx : Int)), mx Z.y0 (B.y0 - (ry : Int)), mn Z.x1 (B.x1 + (rx : Int)), mn Z.y1 (B.y1 + (ry : Int))⟩ := area_some hZ hB eB hx hy
    rcases he : empB (⟨mx Z.x0 (B.x0 - (rx : Int)), mx Z.y0 (B.y0 - (ry : Int)), mn Z.x1 (B.x1 + (rx : Int)), mn Z.y1 (B.y1 + (ry : Int))⟩ : R) with _ | _
    · right
      rw [orN_no he] at hM
      obtain ⟨m1, m2⟩ := of_some he
      dsimp only at m1 m2
      have hA0 : (areaT false Z B rx ry).x0 = mx Z.x0 (B.x0 - (rx : Int)) := by rw [hM]
      have hA1 : (areaT false Z B rx ry).y0 = mx Z.y0 (B.y0 - (ry : Int)) := by rw [hM]
      have hA2 : (areaT false Z B rx ry).x1 = mn Z.x1 (B.x1 + (rx : Int)) := by rw [hM]
      have hA3 : (areaT false Z B rx ry).y1 = mn Z.y1 (B.y1 + (ry : Int)) := by rw [hM]
      generalize areaT false Z B rx ry = M at *
      have hF : Fit Z B M rx ry := by
        refine ⟨hZ.ok, hB, ?_, ?_, ?_, ?_, ?_, hx, hy⟩
        · unfold Half at hZ; unfold Ok at *; unfold mx mn at *; omega
        all_goals unfold mx mn at *; omega
      refine ⟨eB, hF, img_ext fun x y hxy => ?_⟩
      have hxy := of_decide_eq_true hxy
      unfold colsG
      by_cases hin : M.x0 ≤ x ∧ x < M.x1 ∧ M.y0 ≤ y ∧ y < M.y1
      · rw [if_pos hin]
        exact area_morph hF hb (.inl rfl) ⟨hin.1, hin.2.1⟩ hin.2.2
      · rw [if_neg hin]
        symm
        apply mor_none
        intro u v u1 u2 u3 u4
        unfold atX
        rw [if_neg]
        intro hB2
        have := of_decide_eq_true hB2
        unfold mx mn at *
        omega
    · left
      rw [orN_yes he] at hM
      refine ⟨hM, img_ext fun x y hxy => ?_⟩
      have hxy := of_decide_eq_true hxy
      have h3 := of_emp he
      dsimp only at h3
      symm
      apply mor_none
      intro u v u1 u2 u3 u4
      unfold atX
      rw [if_neg]
      intro hB2
      have := of_decide_eq_true hB2
      unfold mx mn at *
      omega
  | true =>
    have hM : areaT true Z B rx ry = orN ⟨mx Z.x0 (B.x0 + (rx : Int)), mx Z.y0 (B.y0 + (ry : Int)), mn Z.x1 (B.x1 - (rx : Int)), mn Z.y1 (B.y1 - (ry : Int))⟩ := rfl
    have hcor : ∀ x y : Int, ¬ (B.x0 + (rx : Int) ≤ x ∧ x < B.x1 - (rx : Int) ∧ B.y0 + (ry : Int) ≤ y ∧ y < B.y1 - (ry : Int)) → morX true (atX B f) rx ry x y = noX := by
      intro x y hn
      have hout : ∀ u v : Int, ¬ (B.x0 ≤ u ∧ u < B.x1 ∧ B.y0 ≤ v ∧ v < B.y1) → atX B f u v = noX := by
        intro u v h
        unfold atX
        rw [if_neg]
        intro hB2
        have := of_decide_eq_true hB2
        omega
      by_cases h1 : B.x0 + (rx : Int) ≤ x
      · by_cases h2 : x < B.x1 - (rx : Int)
        · by_cases h3 : B.y0 + (ry : Int) ≤ y
          · exact mor_less (u := x) (v := y + (ry : Int)) (fun u v => at_byte hb u v) (by omega) (hout _ _ (by omega))
          · exact mor_less (u := x) (v := y - (ry : Int)) (fun u v => at_byte hb u v) (by omega) (hout _ _ (by omega))
        · exact mor_less (u := x + (rx : Int)) (v := y) (fun u v => at_byte hb u v) (by omega) (hout _ _ (by omega))
      · exact mor_less (u := x - (rx : Int)) (v := y) (fun u v => at_byte hb u v) (by omega) (hout _ _ (by omega))
    rcases he : empB (⟨mx Z.x0 (B.x0 + (rx : Int)), mx Z.y0 (B.y0 + (ry : Int)), mn Z.x1 (B.x1 - (rx : Int)), mn Z.y1 (B.y1 - (ry : Int))⟩ : R) with _ | _
    · right
      rw [orN_no he] at hM
      obtain ⟨m1, m2⟩ := of_some he
      dsimp only at m1 m2
      have hA0 : (areaT true Z B rx ry).x0 = mx Z.x0 (B.x0 + (rx : Int)) := by rw [hM]
      have hA1 : (areaT true Z B rx ry).y0 = mx Z.y0 (B.y0 + (ry : Int)) := by rw [hM]
      have hA2 : (areaT true Z B rx ry).x1 = mn Z.x1 (B.x1 - (rx : Int)) := by rw [hM]
      have hA3 : (areaT true Z B rx ry).y1 = mn Z.y1 (B.y1 - (ry : Int)) := by rw [hM]
      generalize areaT true Z B rx ry = M at *
      have hF : Fit Z B M rx ry := by
        refine ⟨hZ.ok, hB, ?_, ?_, ?_, ?_, ?_, hx, hy⟩
        · unfold Half at hZ; unfold Ok at *; unfold mx mn at *; omega
        all_goals unfold mx mn at *; omega
      refine ⟨eB, hF, img_ext fun x y hxy => ?_⟩
      have hxy := of_decide_eq_true hxy
      unfold colsG
      by_cases hin : M.x0 ≤ x ∧ x < M.x1 ∧ M.y0 ≤ y ∧ y < M.y1
      · rw [if_pos hin]
        exact area_morph hF hb (.inr (by unfold mx mn at *; omega)) ⟨hin.1, hin.2.1⟩ hin.2.2
      · rw [if_neg hin]
        symm
        apply hcor
        unfold mx mn at *
        omega
    · left
      rw [orN_yes he] at hM
      refine ⟨hM, img_ext fun x y hxy => ?_⟩
      have hxy := of_decide_eq_true hxy
      have h3 := of_emp he
      dsimp only at h3
      symm
      apply hcor
      unfold mx mn at *
      omega
/-- no more points than the box has with the radii -/
theorem rows_area {B Z M : R} {rx ry : Nat} (h : Fit Z B M rx ry) (hZ : Half Z) : area (rowsQ B M ry) ≤ area (grow Z (rx : Int) (ry : Int) (rx : Int) (ry : Int)) := by
  have h1 := h.mx
  have h2 := h.my
  have h3 := h.hx
  have h4 := h.hy
  have eZ : empB Z = false := emp_no (by omega) (by omega)
  unfold grow
  rw [if_neg (by rw [eZ]; simp)]
  unfold cutR
  unfold Half at hZ
  rw [orN_no (emp_no (by dsimp only; unfold cutN mx mn; omega) (by dsimp only; unfold cutN mx mn; omega))]
  apply area_in
  unfold rowsQ
  dsimp only
  unfold cutN
  unfold mx mn at *
  omega
end Go.Proofs.Ytfkbdpbgeglgaaa
