/- The arithmetic of rectangles: met, joined, moved, grown, and how many points there are. -/
namespace Go.Proofs.Ytfgfgfmimejpdaa.Num
set_option linter.unusedVariables false

/-- a rectangle's edges -/
structure R where
  x0 : Int
  y0 : Int
  x1 : Int
  y1 : Int
  deriving DecidableEq

def empB (r : R) : Bool := decide (r.x1 ≤ r.x0 ∨ r.y1 ≤ r.y0)
def hasB (r : R) (x y : Int) : Bool := decide (r.x0 ≤ x ∧ x < r.x1 ∧ r.y0 ≤ y ∧ y < r.y1)
def nil : R := ⟨0, 0, 0, 0⟩
def orN (r : R) : R := if empB r = true then nil else r
def mx (a b : Int) : Int := max a b
def mn (a b : Int) : Int := min a b
def meet (a b : R) : R := orN ⟨mx a.x0 b.x0, mx a.y0 b.y0, mn a.x1 b.x1, mn a.y1 b.y1⟩
def join (a b : R) : R := if empB a = true then orN b else if empB b = true then a else ⟨mn a.x0 b.x0, mn a.y0 b.y0, mx a.x1 b.x1, mx a.y1 b.y1⟩
def cutN (n : Int) : Int := mx (-4398046511104) (mn n 4398046511104)
def cutR (a b c d : Int) : R := orN ⟨cutN a, cutN b, cutN c, cutN d⟩
def mvd (n d : Int) : Int := if n ≤ -4398046511104 ∨ 4398046511104 ≤ n then n else n + d
def moveR (r : R) (dx dy : Int) : R := if empB r = true then nil else cutR (mvd r.x0 dx) (mvd r.y0 dy) (mvd r.x1 dx) (mvd r.y1 dy)
def grow (r : R) (l u a d : Int) : R := if empB r = true then nil else cutR (r.x0 - l) (r.y0 - u) (r.x1 + a) (r.y1 + d)
def area (r : R) : Int := if empB r = true then 0 else mn ((r.x1 - r.x0) * (r.y1 - r.y0)) 2305843009213693952
def nearB (n : Int) : Bool := decide (-4398046511104 ≤ n ∧ n ≤ 4398046511104)
def rightB (r : R) : Bool := decide (nearB r.x0 = true ∧ nearB r.y0 = true ∧ nearB r.x1 = true ∧ nearB r.y1 = true)

theorem emp_yes {r : R} (h : r.x1 ≤ r.x0 ∨ r.y1 ≤ r.y0) : empB r = true := decide_eq_true h
theorem emp_no {r : R} (h1 : r.x0 < r.x1) (h2 : r.y0 < r.y1) : empB r = false := decide_eq_false (by omega)
theorem of_emp {r : R} (h : empB r = true) : r.x1 ≤ r.x0 ∨ r.y1 ≤ r.y0 := of_decide_eq_true h
theorem of_some {r : R} (h : empB r = false) : r.x0 < r.x1 ∧ r.y0 < r.y1 := by have := of_decide_eq_false h; omega
theorem orN_yes {r : R} (h : empB r = true) : orN r = nil := by unfold orN; rw [if_pos h]
theorem orN_no {r : R} (h : empB r = false) : orN r = r := by unfold orN; rw [if_neg (by simp [h])]
theorem orN_or (r : R) : orN r = nil ∨ orN r = r := by unfold orN; split <;> simp

theorem of_right {r : R} (h : rightB r = true) : (-4398046511104 ≤ r.x0 ∧ r.x0 ≤ 4398046511104) ∧ (-4398046511104 ≤ r.y0 ∧ r.y0 ≤ 4398046511104) ∧ (-4398046511104 ≤ r.x1 ∧ r.x1 ≤ 4398046511104) ∧ (-4398046511104 ≤ r.y1 ∧ r.y1 ≤ 4398046511104) := by
  obtain ⟨h1, h2, h3, h4⟩ := of_decide_eq_true h
  exact ⟨of_decide_eq_true h1, of_decide_eq_true h2, of_decide_eq_true h3, of_decide_eq_true h4⟩

/-- edges within the plane -/
def Ok (r : R) : Prop := (-4398046511104 ≤ r.x0 ∧ r.x0 ≤ 4398046511104) ∧ (-4398046511104 ≤ r.y0 ∧ r.y0 ≤ 4398046511104) ∧ (-4398046511104 ≤ r.x1 ∧ r.x1 ≤ 4398046511104) ∧ (-4398046511104 ≤ r.y1 ∧ r.y1 ≤ 4398046511104)
theorem ok_nil : Ok nil := by unfold Ok nil; decide
theorem ok_orN {r : R} (h : Ok r) : Ok (orN r) := by rcases orN_or r with e | e <;> rw [e]; exact ok_nil; exact h
theorem ok_meet {a b : R} (ha : Ok a) (hb : Ok b) : Ok (meet a b) := by
  unfold meet mx mn; apply ok_orN; unfold Ok at *; dsimp only; omega
theorem ok_join {a b : R} (ha : Ok a) (hb : Ok b) : Ok (join a b) := by
  unfold join mx mn
  split
  · exact ok_orN hb
  · split
    · exact ha
    · unfold Ok at *; dsimp only; omega

theorem mul_cap {w h : Int} (hw : 0 < w) (hh : 0 < h) : (2305843009213693952 / h < w) ↔ 2305843009213693952 < w * h := by
  rw [Int.ediv_lt_iff_lt_mul hh]
theorem prod_pos {w h : Int} (hw : 0 < w) (hh : 0 < h) : 0 < w * h := Int.mul_pos hw hh
theorem prod_le {w h a b : Int} (hw : 0 ≤ w) (hh : 0 ≤ h) (h1 : w ≤ a) (h2 : h ≤ b) : w * h ≤ a * b := Int.mul_le_mul h1 h2 hh (by omega)

theorem area_bd (r : R) : 0 ≤ area r ∧ area r ≤ 2305843009213693952 := by
  unfold area mn
  split
  · omega
  · rename_i h
    obtain ⟨h1, h2⟩ := of_some (r := r) (by simpa using h)
    have := prod_pos (w := r.x1 - r.x0) (h := r.y1 - r.y0) (by omega) (by omega)
    omega
theorem area_0 (r : R) : decide (area r = 0) = empB r := by
  unfold area mn
  by_cases h : empB r = true
  · rw [if_pos h, h]; rfl
  · have h' : empB r = false := by simpa using h
    rw [if_neg h, h']
    obtain ⟨h1, h2⟩ := of_some h'
    have := prod_pos (w := r.x1 - r.x0) (h := r.y1 - r.y0) (by omega) (by omega)
    exact decide_eq_false (by omega)

/-- a part has no more points -/
theorem area_le {a b : R} (h : empB a = true ∨ (b.x0 ≤ a.x0 ∧ b.y0 ≤ a.y0 ∧ a.x1 ≤ b.x1 ∧ a.y1 ≤ b.y1)) : area a ≤ area b := by
  by_cases e : empB a = true
  · have : area a = 0 := by unfold area; rw [if_pos e]
    have := area_bd b
    omega
  · rcases h with h | h
    · exact absurd h e
    · have e' : empB a = false := by simpa using e
      obtain ⟨h1, h2⟩ := of_some e'
      have hb : empB b = false := emp_no (by omega) (by omega)
      unfold area mn
      rw [if_neg e, if_neg (by simp [hb])]
      have := prod_le (w := a.x1 - a.x0) (h := a.y1 - a.y0) (a := b.x1 - b.x0) (b := b.y1 - b.y0) (by omega) (by omega) (by omega) (by omega)
      omega

theorem meet_l (a b : R) : area (meet a b) ≤ area a := by
  apply area_le
  unfold meet
  rcases h : empB ⟨mx a.x0 b.x0, mx a.y0 b.y0, mn a.x1 b.x1, mn a.y1 b.y1⟩ with _ | _
  · rw [orN_no h]; right; dsimp only; unfold mx mn; omega
  · rw [orN_yes h]; left; rfl
theorem meet_r (a b : R) : area (meet a b) ≤ area b := by
  apply area_le
  unfold meet
  rcases h : empB ⟨mx a.x0 b.x0, mx a.y0 b.y0, mn a.x1 b.x1, mn a.y1 b.y1⟩ with _ | _
  · rw [orN_no h]; right; dsimp only; unfold mx mn; omega
  · rw [orN_yes h]; left; rfl

/-- two parts of a whole, which have a part in common -/
theorem parts {W H a b c d : Int} (h1 : a ≤ W) (h2 : c ≤ W) (h3 : b ≤ H) (h4 : d ≤ H) : a * b + c * d - (a + c - W) * (b + d - H) ≤ W * H := by
  have e1 : 0 ≤ (W - a) * (H - d) := Int.mul_nonneg (by omega) (by omega)
  have e2 : 0 ≤ (W - c) * (H - b) := Int.mul_nonneg (by omega) (by omega)
  have : W * H - (a * b + c * d - (a + c - W) * (b + d - H)) = (W - a) * (H - d) + (W - c) * (H - b) := by grind
  omega
/-- two parts side by side -/
theorem beside {W H a b c d : Int} (ha : 0 < a) (hc : 0 < c) (hb : 0 < b) (hd : 0 < d) (h1 : a + c ≤ W) (h3 : b ≤ H) (h4 : d ≤ H) : a * b + c * d ≤ W * H := by
  have e1 : a * b ≤ a * H := Int.mul_le_mul_of_nonneg_left h3 (by omega)
  have e2 : c * d ≤ c * H := Int.mul_le_mul_of_nonneg_left h4 (by omega)
  have e3 : (a + c) * H ≤ W * H := Int.mul_le_mul_of_nonneg_right h1 (by omega)
  have e4 : (a + c) * H = a * H + c * H := Int.add_mul _ _ _
  omega

theorem area_of {r : R} (h : empB r = false) : area r = mn ((r.x1 - r.x0) * (r.y1 - r.y0)) 2305843009213693952 := by
  unfold area; rw [if_neg (by simp [h])]
theorem area_no {r : R} (h : empB r = true) : area r = 0 := by unfold area; rw [if_pos h]
theorem area_nil : area nil = 0 := area_no rfl

theorem areas (a b : R) (h : area (join a b) < 2305843009213693952) : area a + area b - area (meet a b) ≤ area (join a b) := by
  have bm := area_bd (meet a b)
  by_cases ea : empB a = true
  · have hj : join a b = orN b := by unfold join; rw [if_pos ea]
    have h0 := area_no ea
    rw [hj]
    by_cases eb : empB b = true
    · rw [orN_yes eb, area_nil, area_no eb, h0]; omega
    · rw [orN_no (by simpa using eb), h0]; omega
  · by_cases eb : empB b = true
    · have hj : join a b = a := by unfold join; rw [if_neg ea, if_pos eb]
      rw [hj, area_no eb]; omega
    · have ea' : empB a = false := by simpa using ea
      have eb' : empB b = false := by simpa using eb
      obtain ⟨a1, a2⟩ := of_some ea'
      obtain ⟨b1, b2⟩ := of_some eb'
      have hj : join a b = ⟨mn a.x0 b.x0, mn a.y0 b.y0, mx a.x1 b.x1, mx a.y1 b.y1⟩ := by unfold join; rw [if_neg ea, if_neg eb]
      have ej : empB (⟨mn a.x0 b.x0, mn a.y0 b.y0, mx a.x1 b.x1, mx a.y1 b.y1⟩ : R) = false := emp_no (by dsimp only; unfold mn mx; omega) (by dsimp only; unfold mn mx; omega)
      rw [hj] at h ⊢
      rw [area_of ej] at h ⊢
      rw [area_of ea', area_of eb']
      unfold meet at bm ⊢
      dsimp only at h ⊢
      rcases em : empB (⟨mx a.x0 b.x0, mx a.y0 b.y0, mn a.x1 b.x1, mn a.y1 b.y1⟩ : R) with _ | _
      · rw [orN_no em] at bm ⊢
        obtain ⟨m1, m2⟩ := of_some em
        rw [area_of em] at bm ⊢
        dsimp only at bm m1 m2 ⊢
        have p := parts (W := mx a.x1 b.x1 - mn a.x0 b.x0) (H := mx a.y1 b.y1 - mn a.y0 b.y0) (a := a.x1 - a.x0) (b := a.y1 - a.y0) (c := b.x1 - b.x0) (d := b.y1 - b.y0) (by unfold mn mx; omega) (by unfold mn mx; omega) (by unfold mn mx; omega) (by unfold mn mx; omega)
        have w1 : a.x1 - a.x0 + (b.x1 - b.x0) - (mx a.x1 b.x1 - mn a.x0 b.x0) = mn a.x1 b.x1 - mx a.x0 b.x0 := by unfold mn mx; omega
        have w2 : a.y1 - a.y0 + (b.y1 - b.y0) - (mx a.y1 b.y1 - mn a.y0 b.y0) = mn a.y1 b.y1 - mx a.y0 b.y0 := by unfold mn mx; omega
        rw [w1, w2] at p
        have q := prod_le (w := mn a.x1 b.x1 - mx a.x0 b.x0) (h := mn a.y1 b.y1 - mx a.y0 b.y0) (a := a.x1 - a.x0) (b := a.y1 - a.y0) (by omega) (by omega) (by unfold mn mx; omega) (by unfold mn mx; omega)
        have q2 := prod_le (w := a.x1 - a.x0) (h := a.y1 - a.y0) (a := mx a.x1 b.x1 - mn a.x0 b.x0) (b := mx a.y1 b.y1 - mn a.y0 b.y0) (by omega) (by omega) (by unfold mn mx; omega) (by unfold mn mx; omega)
        have q3 := prod_le (w := b.x1 - b.x0) (h := b.y1 - b.y0) (a := mx a.x1 b.x1 - mn a.x0 b.x0) (b := mx a.y1 b.y1 - mn a.y0 b.y0) (by omega) (by omega) (by unfold mn mx; omega) (by unfold mn mx; omega)
        generalize (mx a.x1 b.x1 - mn a.x0 b.x0) * (mx a.y1 b.y1 - mn a.y0 b.y0) = J at *
        generalize (mn a.x1 b.x1 - mx a.x0 b.x0) * (mn a.y1 b.y1 - mx a.y0 b.y0) = M at *
        generalize (a.x1 - a.x0) * (a.y1 - a.y0) = A at *
        generalize (b.x1 - b.x0) * (b.y1 - b.y0) = B at *
        unfold mn at *
        omega
      · rw [orN_yes em] at bm ⊢
        rw [area_nil]
        have m := of_emp em
        dsimp only at m
        have p : (a.x1 - a.x0) * (a.y1 - a.y0) + (b.x1 - b.x0) * (b.y1 - b.y0) ≤ (mx a.x1 b.x1 - mn a.x0 b.x0) * (mx a.y1 b.y1 - mn a.y0 b.y0) := by
          rcases m with m | m
          · exact beside (by omega) (by omega) (by omega) (by omega) (by unfold mn mx at *; omega) (by unfold mn mx; omega) (by unfold mn mx; omega)
          · rw [Int.mul_comm (a.x1 - a.x0), Int.mul_comm (b.x1 - b.x0), Int.mul_comm (mx a.x1 b.x1 - mn a.x0 b.x0)]
            exact beside (by omega) (by omega) (by omega) (by omega) (by unfold mn mx at *; omega) (by unfold mn mx; omega) (by unfold mn mx; omega)
        generalize (mx a.x1 b.x1 - mn a.x0 b.x0) * (mx a.y1 b.y1 - mn a.y0 b.y0) = J at *
        generalize (a.x1 - a.x0) * (a.y1 - a.y0) = A at *
        generalize (b.x1 - b.x0) * (b.y1 - b.y0) = B at *
        unfold mn at *
        omega

/-- an edge that is moved, as the document has it -/
def edge (n d : Int) : Int := if n = 4398046511104 ∨ n = -4398046511104 then n else cutN (n + d)
theorem edge_cut {n d : Int} (h : -4398046511104 ≤ n ∧ n ≤ 4398046511104) : edge n d = cutN (mvd n d) := by
  unfold edge mvd
  by_cases e : n = 4398046511104 ∨ n = -4398046511104
  · rw [if_pos e, if_pos (by omega)]; unfold cutN mx mn; omega
  · rw [if_neg e, if_neg (by omega)]

theorem cutN_in {n : Int} (h : -4398046511104 ≤ n ∧ n ≤ 4398046511104) : cutN n = n := by unfold cutN mx mn; omega
theorem mvd_in {n d : Int} (h : -4398046511104 < n ∧ n < 4398046511104) : mvd n d = n + d := by unfold mvd; rw [if_neg (by omega)]

theorem has_orN (r : R) (x y : Int) : hasB (orN r) x y = hasB r x y := by
  rcases e : empB r with _ | _
  · rw [orN_no e]
  · rw [orN_yes e]
    have := of_emp e
    unfold hasB nil
    rw [decide_eq_decide]
    dsimp only
    omega
theorem has_nil (x y : Int) : hasB nil x y = false := by unfold hasB nil; exact decide_eq_false (by dsimp only; omega)
theorem has_emp {r : R} (e : empB r = true) (x y : Int) : hasB r x y = false := by
  have := of_emp e
  unfold hasB; exact decide_eq_false (by omega)

/-- within so many columns and rows of no end nothing is cut -/
def Small (n : Int) : Prop := -1048576 < n ∧ n < 1048576
theorem has_move {r : R} {x y dx dy : Int} (h0 : -1048576 < r.x0 ∧ r.x0 ≤ 1048576) (h1 : -1048576 < r.y0 ∧ r.y0 ≤ 1048576) (h2 : -4398046511104 < r.x1 ∧ r.x1 < 1048576) (h3 : -4398046511104 < r.y1 ∧ r.y1 < 1048576) (hx : Small dx) (hy : Small dy) :
    hasB (moveR r dx dy) x y = hasB r (x - dx) (y - dy) := by
  unfold Small at *
  unfold moveR
  rcases e : empB r with _ | _
  · rw [if_neg (by simp)]
    obtain ⟨e1, e2⟩ := of_some e
    unfold cutR
    rw [has_orN, mvd_in (by omega), mvd_in (by omega), mvd_in (by omega), mvd_in (by omega), cutN_in (by omega), cutN_in (by omega), cutN_in (by omega), cutN_in (by omega)]
    unfold hasB
    rw [decide_eq_decide]
    dsimp only
    omega
  · rw [if_pos rfl, has_nil, has_emp e]

def growB (r : R) (d x y : Int) : Bool := decide (empB r = false ∧ r.x0 - d ≤ x ∧ x < r.x1 + d ∧ r.y0 - d ≤ y ∧ y < r.y1 + d)
theorem has_grow {r : R} {x y d : Int} (h0 : -1048576 < r.x0 ∧ r.x0 ≤ 1048576) (h1 : -1048576 < r.y0 ∧ r.y0 ≤ 1048576) (h2 : -4398046511104 < r.x1 ∧ r.x1 < 1048576) (h3 : -4398046511104 < r.y1 ∧ r.y1 < 1048576) (hd : 0 ≤ d ∧ d ≤ 1000) :
    hasB (grow r d d d d) x y = growB r d x y := by
  unfold grow growB
  rcases e : empB r with _ | _
  · rw [if_neg (by simp)]
    obtain ⟨e1, e2⟩ := of_some e
    unfold cutR
    rw [has_orN, cutN_in (by omega), cutN_in (by omega), cutN_in (by omega), cutN_in (by omega)]
    unfold hasB
    rw [decide_eq_decide]
    dsimp only
    simp
  · rw [if_pos rfl, has_nil]; simp
end Go.Proofs.Ytfgfgfmimejpdaa.Num
