
/- The arithmetic of rectangles: met, joined, moved, grown, and how many points there are. -/
namespace Go.Proofs.YtamojciiacmjaaaDoor.Rg.Num
set_option linter.unusedVariables false

/-- a rectangle's edges -/
structure R where
  x0 : Int
  y0 : Int
  x1 : Int
  y1 : Int
  deriving DecidableEq

def empB (r : R) : Bool := decide (r.x1 ≤ r.x0 ∨ r.y1 ≤ r.y0)
def hasB (r : R) (x y : Int) : Bool := decide (r.x0 ≤ x ∧ x < r.x1 ∧ r.y0 ≤ y ∧ y < r.y1)
def nil : R := ⟨0, 0, 0, 0⟩
def orN (r : R) : R := if empB r = true then nil else r
def mx (a b : Int) : Int := max a b
def mn (a b : Int) : Int := min a b
def meet (a b : R) : R := orN ⟨mx a.x0 b.x0, mx a.y0 b.y0, mn a.x1 b.x1, mn a.y1 b.y1⟩
def join (a b : R) : R := if empB a = true then orN b else if empB b = true then a else ⟨mn a.x0 b.x0, mn a.y0 b.y0, mx a.x1 b.x1, mx a.y1 b.y1⟩
def cutN (n : Int) : Int := mx (-4398046511104) (mn n 4398046511104)
def cutR (a b c d : Int) : R := orN ⟨cutN a, cutN b, cutN c, cutN d⟩
def mvd (n d : Int) : Int := if n ≤ -4398046511104 ∨ 4398046511104 ≤ n then n else n + d
def moveR (r : R) (dx dy : Int) : R := if empB r = true then nil else cutR (mvd r.x0 dx) (mvd r.y0 dy) (mvd r.x1 dx) (mvd r.y1 dy)
def grow (r : R) (l u a d : Int) : R := if empB r = true then nil else cutR (r.x0 - l) (r.y0 - u) (r.x1 + a) (r.y1 + d)
def area (r : R) : Int := if empB r = true then 0 else mn ((r.x1 - r.x0) * (r.y1 - r.y0)) 2305843009213693952
def nearB (n : Int) : Bool := decide (-4398046511104 ≤ n ∧ n ≤ 4398046511104)
def rightB (r : R) : Bool := decide (nearB r.x0 = true ∧ nearB r.y0 = true ∧ nearB r.x1 = true ∧ nearB r.y1 = true)

theorem emp_yes {r : R} (h : r.x1 ≤ r.x0 ∨ r.y1 ≤ r.y0) : empB r = true := decide_eq_true h
theorem emp_no {r : R} (h1 : r.x0 < r.x1) (h2 : r.y0 < r.y1) : empB r = false := decide_eq_false (by omega)
theorem of_emp {r : R} (h : empB r = true) : r.x1 ≤ r.x0 ∨ r.y1 ≤ r.y0 := of_decide_eq_true h
theorem of_some {r : R} (h : empB r = false) : r.x0 < r.x1 ∧ r.y0 < r.y1 := by have := of_decide_eq_false h; omega
theorem orN_yes {r : R} (h : empB r = true) : orN r = nil := by unfold orN; rw [if_pos h]
theorem orN_no {r : R} (h : empB r = false) : orN r = r := by unfold orN; rw [if_neg (by simp [h])]
theorem orN_or (r : R) : orN r = nil ∨ orN r = r := by unfold orN; split <;> simp

theorem of_right {r : R} (h : rightB r = true) : (-4398046511104 ≤ r.x0 ∧ r.x0 ≤ 4398046511104) ∧ (-4398046511104 ≤ r.y0 ∧ r.y0 ≤ 4398046511104) ∧ (-4398046511104 ≤ r.x1 ∧ r.x1 ≤ 4398046511104) ∧ (-4398046511104 ≤ r.y1 ∧ r.y1 ≤ 4398046511104) := by
  obtain ⟨h1, h2, h3, h4⟩ := of_decide_eq_true h
  exact ⟨of_decide_eq_true h1, of_decide_eq_true h2, of_decide_eq_true h3, of_decide_eq_true h4⟩

/-- edges within the plane -/
def Ok (r : R) : Prop := (-4398046511104 ≤ r.x0 ∧ r.x0 ≤ 4398046511104) ∧ (-4398046511104 ≤ r.y0 ∧ r.y0 ≤ 4398046511104) ∧ (-4398046511104 ≤ r.x1 ∧ r.x1 ≤ 4398046511104) ∧ (-4398046511104 ≤ r.y1 ∧ r.y1 ≤ 4398046511104)
theorem ok_nil : Ok nil := by unfold Ok nil; decide
theorem ok_orN {r : R} (h : Ok r) : Ok (orN r) := by rcases orN_or r with e | e <;> rw [e]; exact ok_nil; exact h
theorem ok_meet {a b : R} (ha : Ok a) (hb : Ok b) : Ok (meet a b) := by
  unfold meet mx mn; apply ok_orN; unfold Ok at *; dsimp only; omega
theorem ok_join {a b : R} (ha : Ok a) (hb : Ok b) : Ok (join a b) := by
  unfold join mx mn
  split
  · exact ok_orN hb
  · split
    · exact ha
    · unfold Ok at *; dsimp only; omega

theorem mul_cap {w h : Int} (hw : 0 < w) (hh : 0 < h) : (2305843009213693952 / h < w) ↔ 2305843009213693952 < w * h := by
  rw [Int.ediv_lt_iff_lt_mul hh]
theorem prod_pos {w h : Int} (hw : 0 < w) (hh : 0 < h) : 0 < w * h := Int.mul_pos hw hh
theorem prod_le {w h a b : Int} (hw : 0 ≤ w) (hh : 0 ≤ h) (h1 : w ≤ a) (h2 : h ≤ b) : w * h ≤ a * b := Int.mul_le_mul h1 h2 hh (by omega)

theorem area_bd (r : R) : 0 ≤ area r ∧ area r ≤ 2305843009213693952 := by
  unfold area mn
  split
  · omega
  · rename_i h
    obtain ⟨h1, h2⟩ := of_some (r := r) (by simpa using h)
    have := prod_pos (w := r.x1 - r.x0) (h := r.y1 - r.y0) (by omega) (by omega)
    omega
theorem area_0 (r : R) : decide (area r = 0) = empB r := by
  unfold area mn
  by_cases h : empB r = true
  · rw [if_pos h, h]; rfl
  · have h' : empB r = false := by simpa using h
    rw [if_neg h, h']
    obtain ⟨h1, h2⟩ := of_some h'
    have := prod_pos (w := r.x1 - r.x0) (h := r.y1 - r.y0) (by omega) (by omega)
    exact decide_eq_false (by omega)

/-- a part has no more points -/
theorem area_le {a b : R} (h : empB a = true ∨ (b.x0 ≤ a.x0 ∧ b.y0 ≤ a.y0 ∧ a.x1 ≤ b.x1 ∧ a.y1 ≤ b.y1)) : area a ≤ area b := by
  by_cases e : empB a = true
  · have : area a = 0 := by unfold area; rw [if_pos e]
    have := area_bd b
    omega
  · rcases h with h | h
    · exact absurd h e
    · have e' : empB a = false := by simpa using e
      obtain ⟨h1, h2⟩ := of_some e'
      have hb : empB b = false := emp_no (by omega) (by omega)
      unfold area mn
      rw [if_neg e, if_neg (by simp [hb])]
      have := prod_le (w := a.x1 - a.x0) (h := a.y1 - a.y0) (a := b.x1 - b.x0) (b := b.y1 - b.y0) (by omega) (by omega) (by omega) (by omega)
      omega

theorem meet_l (a b : R) : area (meet a b) ≤ area a := by
  apply area_le
  unfold meet
  rcases h : empB ⟨mx a.x0 b.x0, mx a.y0 b.y0, mn a.x1 b.x1, mn a.y1 b.y1⟩ with _ | _
  · rw [orN_no h]; right; dsimp only; unfold mx mn; omega
  · rw [orN_yes h]; left; rfl
theorem meet_r (a b : R) : area (meet a b) ≤ area b := by
  apply area_le
  unfold meet
  rcases h : empB ⟨mx a.x0 b.x0, mx a.y0 b.y0, mn a.x1 b.x1, mn a.y1 b.y1⟩ with _ | _
  · rw [orN_no h]; right; dsimp only; unfold mx mn; omega
  · rw [orN_yes h]; left; rfl

/-- two parts of a whole, which have a part in common -/
theorem parts {W H a b c d : Int} (h1 : a ≤ W) (h2 : c ≤ W) (h3 : b ≤ H) (h4 : d ≤ H) : a * b + c * d - (a + c - W) * (b + d - H) ≤ W * H := by
  have e1 : 0 ≤ (W - a) * (H - d) := Int.mul_nonneg (by omega) (by omega)
  have e2 : 0 ≤ (W - c) * (H - b) := Int.mul_nonneg (by omega) (by omega)
  have : W * H - (a * b + c * d - (a + c - W) * (b + d - H)) = (W - a) * (H - d) + (W - c) * (H - b) := by grind
  omega
/-- two parts side by side -/
theorem beside {W H a b c d : Int} (ha : 0 < a) (hc : 0 < c) (hb : 0 < b) (hd : 0 < d) (h1 : a + c ≤ W) (h3 : b ≤ H) (h4 : d ≤ H) : a * b + c * d ≤ W * H := by
  have e1 : a * b ≤ a * H := Int.mul_le_mul_of_nonneg_left h3 (by omega)
  have e2 : c * d ≤ c * H := Int.mul_le_mul_of_nonneg_left h4 (by omega)
  have e3 : (a + c) * H ≤ W * H := Int.mul_le_mul_of_nonneg_right h1 (by omega)
  have e4 : (a + c) * H = a * H + c * H := Int.add_mul _ _ _
  omega

theorem area_of {r : R} (h : empB r = false) : area r = mn ((r.x1 - r.x0) * (r.y1 - r.y0)) 2305843009213693952 := by
  unfold area; rw [if_neg (by simp [h])]
theorem area_no {r : R} (h : empB r = true) : area r = 0 := by unfold area; rw [if_pos h]
theorem area_nil : area nil = 0 := area_no rfl

theorem areas (a b : R) (h : area (join a b) < 2305843009213693952) : area a + area b - area (meet a b) ≤ area (join a b) := by
  have bm := area_bd (meet a b)
  by_cases ea : empB a = true
  · have hj : join a b = orN b := by unfold join; rw [if_pos ea]
    have h0 := area_no ea
    rw [hj]
    by_cases eb : empB b = true
    · rw [orN_yes eb, area_nil, area_no eb, h0]; omega
    · rw [orN_no (by simpa using eb), h0]; omega
  · by_cases eb : empB b = true
    · have hj : join a b = a := by unfold join; rw [if_neg ea, if_pos eb]
      rw [hj, area_no eb]; omega
    · have ea' : empB a = false := by simpa using ea
      have eb' : empB b = false := by simpa using eb
      obtain ⟨a1, a2⟩ := of_some ea'
      obtain ⟨b1, b2⟩ := of_some eb'
      have hj : join a b = ⟨mn a.x0 b.x0, mn a.y0 b.y0, mx a.x1 b.x1, mx a.y1 b.y1⟩ := by unfold join; rw [if_neg ea, if_neg eb]
      have ej : empB (⟨mn a.x0 b.x0, mn a.y0 b.y0, mx a.x1 b.x1, mx a.y1 b.y1⟩ : R) = false := emp_no (by dsimp only; unfold mn mx; omega) (by dsimp only; unfold mn mx; omega)
      rw [hj] at h ⊢
      rw [area_of ej] at h ⊢
      rw [area_of ea', area_of eb']
      unfold meet at bm ⊢
      dsimp only at h ⊢
      rcases em : empB (⟨mx a.x0 b.x0, mx a.y0 b.y0, mn a.x1 b.x1, mn a.y1 b.y1⟩ : R) with _ | _
      · rw [orN_no em] at bm ⊢
        obtain ⟨m1, m2⟩ := of_some em
        rw [area_of em] at bm ⊢
        dsimp only at bm m1 m2 ⊢
        have p := parts (W := mx a.x1 b.x1 - mn a.x0 b.x0) (H := mx a.y1 b.y1 - mn a.y0 b.y0) (a := a.x1 - a.x0) (b := a.y1 - a.y0) (c := b.x1 - b.x0) (d := b.y1 - b.y0) (by unfold mn mx; omega) (by unfold mn mx; omega) (by unfold mn mx; omega) (by unfold mn mx; omega)
        have w1 : a.x1 - a.x0 + (b.x1 - b.x0) - (mx a.x1 b.x1 - mn a.x0 b.x0) = mn a.x1 b.x1 - mx a.x0 b.x0 := by unfold mn mx; omega
        have w2 : a.y1 - a.y0 + (b.y1 - b.y0) - (mx a.y1 b.y1 - mn a.y0 b.y0) = mn a.y1 b.y1 - mx a.y0 b.y0 := by unfold mn mx; omega
        rw [w1, w2] at p
        have q := prod_le (w := mn a.x1 b.x1 - mx a.x0 b.x0) (h := mn a.y1 b.y1 - mx a.y0 b.y0) (a := a.x1 - a.x0) (b := a.y1 - a.y0) (by omega) (by omega) (by unfold mn mx; omega) (by unfold mn mx; omega)
        have q2 := prod_le (w := a.x1 - a.x0) (h := a.y1 - a.y0) (a := mx a.x1 b.x1 - mn a.x0 b.x0) (b := mx a.y1 b.y1 - mn a.y0 b.y0) (by omega) (by omega) (by unfold mn mx; omega) (by unfold mn mx; omega)
        have q3 := prod_le (w := b.x1 - b.x0) (h := b.y1 - b.y0) (a := mx a.x1 b.x1 - mn a.x0 b.x0) (b := mx a.y1 b.y1 - mn a.y0 b.y0) (by omega) (by omega) (by unfold mn mx; omega) (by unfold mn mx; omega)
        generalize (mx a.x1 b.x1 - mn a.x0 b.x0) * (mx a.y1 b.y1 - mn a.y0 b.y0) = J at *
        generalize (mn a.x1 b.x1 - mx a.x0 b.x0) * (mn a.y1 b.y1 - mx a.y0 b.y0) = M at *
        generalize (a.x1 - a.x0) * (a.y1 - a.y0) = A at *
        generalize (b.x1 - b.x0) * (b.y1 - b.y0) = B at *
        unfold mn at *
        omega
      · rw [orN_yes em] at bm ⊢
        rw [area_nil]
        have m := of_emp em
        dsimp only at m
        have p : (a.x1 - a.x0) * (a.y1 - a.y0) + (b.x1 - b.x0) * (b.y1 - b.y0) ≤ (mx a.x1 b.x1 - mn a.x0 b.x0) * (mx a.y1 b.y1 - mn a.y0 b.y0) := by
          rcases m with m | m
          · exact beside (by omega) (by omega) (by omega) (by omega) (by unfold mn mx at *; omega) (by unfold mn mx; omega) (by unfold mn mx; omega)
          · rw [Int.mul_comm (a.x1 - a.x0), Int.mul_comm (b.x1 - b.x0), Int.mul_comm (mx a.x1 b.x1 - mn a.x0 b.x0)]
            exact beside (by omega) (by omega) (by omega) (by omega) (by unfold mn mx at *; omega) (by unfold mn mx; omega) (by unfold mn mx; omega)
        generalize (mx a.x1 b.x1 - mn a.x0 b.x0) * (mx a.y1 b.y1 - mn a.y0 b.y0) = J at *
        generalize (a.x1 - a.x0) * (a.y1 - a.y0) = A at *
        generalize (b.x1 - b.x0) * (b.y1 - b.y0) = B at *
        unfold mn at *
        omega

/-- an edge that is moved, as the document has it -/
def edge (n d : Int) : Int := if n = 4398046511104 ∨ n = -4398046511104 then n else cutN (n + d)
theorem edge_cut {n d : Int} (h : -4398046511104 ≤ n ∧ n ≤ 4398046511104) : edge n d = cutN (mvd n d) := by
  unfold edge mvd
  by_cases e : n = 4398046511104 ∨ n = -4398046511104
  · rw [if_pos e, if_pos (by omega)]; unfold cutN mx mn; omega
  · rw [if_neg e, if_neg (by omega)]

theorem cutN_in {n : Int} (h : -4398046511104 ≤ n ∧ n ≤ 4398046511104) : cutN n = n := by unfold cutN mx mn; omega
theorem mvd_in {n d : Int} (h : -4398046511104 < n ∧ n < 4398046511104) : mvd n d = n + d := by unfold mvd; rw [if_neg (by omega)]

theorem has_orN (r : R) (x y : Int) : hasB (orN r) x y = hasB r x y := by
  rcases e : empB r with _ | _
  · rw [orN_no e]
  · rw [orN_yes e]
    have := of_emp e
    unfold hasB nil
    rw [decide_eq_decide]
    dsimp only
    omega
theorem has_nil (x y : Int) : hasB nil x y = false := by unfold hasB nil; exact decide_eq_false (by dsimp only; omega)
theorem has_emp {r : R} (e : empB r = true) (x y : Int) : hasB r x y = false := by
  have := of_emp e
  unfold hasB; exact decide_eq_false (by omega)

/-- within so many columns and rows of no end nothing is cut -/
def Small (n : Int) : Prop := -1048576 < n ∧ n < 1048576
theorem has_move {r : R} {x y dx dy : Int} (h0 : -1048576 < r.x0 ∧ r.x0 ≤ 1048576) (h1 : -1048576 < r.y0 ∧ r.y0 ≤ 1048576) (h2 : -4398046511104 < r.x1 ∧ r.x1 < 1048576) (h3 : -4398046511104 < r.y1 ∧ r.y1 < 1048576) (hx : Small dx) (hy : Small dy) :
    hasB (moveR r dx dy) x y = hasB r (x - dx) (y - dy) := by
  unfold Small at *
  unfold moveR
  rcases e : empB r with _ | _
  · rw [if_neg (by simp)]
    obtain ⟨e1, e2⟩ := of_some e
    unfold cutR
    rw [has_orN, mvd_in (by omega), mvd_in (by omega), mvd_in (by omega), mvd_in (by omega), cutN_in (by omega), cutN_in (by omega), cutN_in (by omega), cutN_in (by omega)]
    unfold hasB
    rw [decide_eq_decide]
    dsimp only
    omega
  · rw [if_pos rfl, has_nil, has_emp e]

def growB (r : R) (d x y : Int) : Bool := decide (empB r = false ∧ r.x0 - d ≤ x ∧ x < r.x1 + d ∧ r.y0 - d ≤ y ∧ y < r.y1 + d)
theorem has_grow {r : R} {x y d : Int} (h0 : -1048576 < r.x0 ∧ r.x0 ≤ 1048576) (h1 : -1048576 < r.y0 ∧ r.y0 ≤ 1048576) (h2 : -4398046511104 < r.x1 ∧ r.x1 < 1048576) (h3 : -4398046511104 < r.y1 ∧ r.y1 < 1048576) (hd : 0 ≤ d ∧ d ≤ 1000) :
    hasB (grow r d d d d) x y = growB r d x y := by
  unfold grow growB
  rcases e : empB r with _ | _
  · rw [if_neg (by simp)]
    obtain ⟨e1, e2⟩ := of_some e
    unfold cutR
    rw [has_orN, cutN_in (by omega), cutN_in (by omega), cutN_in (by omega), cutN_in (by omega)]
    unfold hasB
    rw [decide_eq_decide]
    dsimp only
    simp
  · rw [if_pos rfl, has_nil]; simp
end Go.Proofs.YtamojciiacmjaaaDoor.Rg.Num
/- Rectangles within the plane; what is asked of a node's parameters. -/
namespace Go.Proofs.YtamojciiacmjaaaDoor.Rg.Num
set_option linter.unusedVariables false

theorem ok_cutR (a b c d : Int) : Ok (cutR a b c d) := by
  unfold cutR
  apply ok_orN
  unfold Ok cutN mx mn
  dsimp only
  omega
theorem ok_moveR (r : R) (dx dy : Int) : Ok (moveR r dx dy) := by
  unfold moveR
  split
  · exact ok_nil
  · exact ok_cutR _ _ _ _
theorem ok_grow (r : R) (l u a d : Int) : Ok (grow r l u a d) := by
  unfold grow
  split
  · exact ok_nil
  · exact ok_cutR _ _ _ _
theorem has_iff' {r : R} {x z : Int} : hasB r x z = true ↔ (r.x0 ≤ x ∧ x < r.x1) ∧ (r.y0 ≤ z ∧ z < r.y1) := by
  unfold hasB
  rw [decide_eq_true_iff]
  constructor
  · rintro ⟨h1, h2, h3, h4⟩; exact ⟨⟨h1, h2⟩, h3, h4⟩
  · rintro ⟨⟨h1, h2⟩, h3, h4⟩; exact ⟨h1, h2, h3, h4⟩
def boxQ (q : Nat → Int) : R := ⟨q 0, q 1, q 2, q 3⟩
/-- what is asked of the parameters -/
structure Pr (op : Int) (q : Nat → Int) : Prop where
  m : op = 1 ∨ op = 11 → (-1048576 ≤ q 0 ∧ q 0 ≤ 1048576) ∧ (-1048576 ≤ q 1 ∧ q 1 ≤ 1048576)
  g : op = 2 ∨ op = 3 ∨ op = 4 → (0 ≤ q 0 ∧ q 0 ≤ 255) ∧ (0 ≤ q 1 ∧ q 1 ≤ 255)
  s : op = 11 → (0 ≤ q 2 ∧ q 2 ≤ 255) ∧ (0 ≤ q 3 ∧ q 3 ≤ 255)
  b : op = 10 ∨ op = 12 → Ok (boxQ q)
end Go.Proofs.YtamojciiacmjaaaDoor.Rg.Num
/- What the functions on regions do, over lists: plain functions. -/
namespace Go.Proofs.YtamojciiacmjaaaDoor.Rg.Num
set_option linter.unusedVariables false

/-- the first band -/
def firstL : List R → List R
  | [] => []
  | r :: t => r :: t.takeWhile (fun s => decide (s.y0 = r.y0))
def nextE (a : List R) (y : Int) : Int := match a with
  | [] => 9223372036854775807
  | r :: _ => if y < r.y0 then r.y0 else r.y1
def bandL (a : List R) (y : Int) : List R := match a with
  | [] => []
  | r :: t => if y < r.y0 then [] else firstL (r :: t)
def belowL (a : List R) (y : Int) : List R := match a with
  | [] => []
  | r :: t => if y < r.y1 then r :: t else (r :: t).drop (firstL (r :: t)).length
def edges (a : List R) : List Int := a.flatMap fun r => [r.x0, r.x1]
def seamB : List R → List R → Bool
  | [], [] => true
  | a :: as, b :: bs => if a.y1 = b.y0 ∧ a.x0 = b.x0 ∧ a.x1 = b.x1 then seamB as bs else false
  | _, _ => false

/-- what is made of a strip so far -/
structure St where
  made : List R
  opn : Bool
  x0 : Int
def passS (y0 y1 x : Int) (t : Bool) (s : St) : St :=
  if t = s.opn then s else ⟨if s.opn = true then s.made ++ [⟨s.x0, y0, x, y1⟩] else s.made, t, x⟩
def tailA (f : Bool → Bool → Bool) (y0 y1 : Int) : List Int → Bool → St → St
  | [], _, s => s
  | x :: l, p, s => tailA f y0 y1 l (!p) (passS y0 y1 x (f (!p) false) s)
def tailB (f : Bool → Bool → Bool) (y0 y1 : Int) : List Int → Bool → St → St
  | [], _, s => s
  | x :: l, p, s => tailB f y0 y1 l (!p) (passS y0 y1 x (f false (!p)) s)
def mergeS (f : Bool → Bool → Bool) (y0 y1 : Int) : Nat → List Int → Bool → List Int → Bool → St → St
  | 0, _, _, _, _, s => s
  | _ + 1, [], p, m, q, s => tailB f y0 y1 m q s
  | _ + 1, l, p, [], q, s => tailA f y0 y1 l p s
  | k + 1, x :: l, p, z :: m, q, s =>
    if x < z then mergeS f y0 y1 k l (!p) (z :: m) q (passS y0 y1 x (f (!p) q) s)
    else if z < x then mergeS f y0 y1 k (x :: l) p m (!q) (passS y0 y1 z (f p (!q)) s)
    else mergeS f y0 y1 k l (!p) m (!q) (passS y0 y1 x (f (!p) (!q)) s)

def setY1 (a b : List R) : List R := List.zipWith (fun r s => ⟨r.x0, r.y0, r.x1, s.y1⟩) a b
def settleL (made : List R) (last at' : Nat) : List R × Nat :=
  if made.drop at' = [] then (made, last)
  else if seamB ((made.take at').drop last) (made.drop at') = true then (made.take last ++ setY1 ((made.take at').drop last) (made.drop at'), last)
  else (made, at')

def combL (f : Bool → Bool → Bool) : Nat → List R → List R → Int → Nat → List R → Option (List R)
  | 0, _, _, _, _, _ => none
  | k + 1, a, b, y, last, made =>
    if a = [] ∧ b = [] then some made
    else
      let n := mn (nextE a y) (nextE b y)
      let s := mergeS f y n ((edges (bandL a y)).length + (edges (bandL b y)).length + 1) (edges (bandL a y)) false (edges (bandL b y)) false ⟨made, false, 0⟩
      combL f k (belowL a n) (belowL b n) n (settleL s.made last made.length).2 (settleL s.made last made.length).1

/-- two sets put together -/
def comb (f : Bool → Bool → Bool) (a b : List R) : Option (List R) := combL f (2 * (a.length + b.length) + 1) a b (-9223372036854775808) 0 []
def orF (p q : Bool) : Bool := p || q
def andF (p q : Bool) : Bool := p && q
def cutF (p q : Bool) : Bool := p && !q

def oneL (r : R) : List R := if empB (meet r ⟨-4398046511104, -4398046511104, 4398046511104, 4398046511104⟩) = true then [] else [meet r ⟨-4398046511104, -4398046511104, 4398046511104, 4398046511104⟩]
/-- the region of a list: halves are joined -/
def ofL : Nat → List R → Option (List R)
  | 0, _ => none
  | k + 1, [] => some []
  | k + 1, [r] => some (oneL r)
  | k + 1, l => match ofL k (l.take (l.length / 2)), ofL k (l.drop (l.length / 2)) with
    | some a, some b => comb orF a b
    | _, _ => none

-- the document's answer
def putL (l : List Int) (n : Int) : List Int := l.filter (fun m => decide (m < n)) ++ n :: l.filter (fun m => decide (n < m))
def hasL (a : List R) (x y : Int) : Bool := a.any fun r => hasB r x y
def wantL (f : Bool → Bool → Bool) (a b : List R) (x y : Int) : Bool := f (hasL a x y) (hasL b x y)
def xsOf (l : List R) : List Int := l.foldl (fun xs r => if empB r = true then xs else putL (putL xs r.x0) r.x1) []
def ysOf (l : List R) : List Int := l.foldl (fun ys r => if empB r = true then ys else putL (putL ys r.y0) r.y1) []
def setX1 (row : List R) (x : Int) : List R := match row.getLast? with
  | none => row
  | some r => row.dropLast ++ [⟨r.x0, r.y0, x, r.y1⟩]
def lastX1 (row : List R) (x : Int) : Bool := match row.getLast? with
  | none => false
  | some r => decide (r.x1 = x)
/-- a row of cells, from the left to the right; cells that touch are one -/
def rowL (want : Int → Bool) (y0 y1 : Int) : List Int → List R → List R
  | x :: x' :: xs, row => rowL want y0 y1 (x' :: xs) (if want x = true then (if lastX1 row x = true then setX1 row x' else row ++ [⟨x, y0, x', y1⟩]) else row)
  | _, row => row
def sameRow (y : Int) : List R → List R → Bool
  | [], [] => true
  | a :: as, b :: bs => if a.x0 = b.x0 ∧ a.x1 = b.x1 ∧ a.y1 = y then sameRow y as bs else false
  | _, _ => false
def rowsL (want : Int → Int → Bool) (xs : List Int) : List Int → List R → Nat → List R
  | y :: y' :: ys, out, last =>
    let row := rowL (fun x => want x y) y y' xs []
    if row ≠ [] ∧ sameRow y (out.drop last) row = true then rowsL want xs (y' :: ys) (out.take last ++ (out.drop last).map (fun r => ⟨r.x0, r.y0, r.x1, y'⟩)) last
    else rowsL want xs (y' :: ys) (out ++ row) out.length
  | _, out, _ => out
def setsL (f : Bool → Bool → Bool) (a b : List R) : List R := rowsL (wantL f a b) (xsOf (a ++ b)) (ysOf (a ++ b)) [] 0

-- a look: the document's examples
example : ofL 5 [⟨0, 0, 2, 2⟩, ⟨1, 1, 3, 3⟩] = some [⟨0, 0, 2, 1⟩, ⟨0, 1, 3, 2⟩, ⟨1, 2, 3, 3⟩] := by decide
example : ofL 5 [⟨0, 0, 1, 1⟩, ⟨1, 0, 2, 1⟩] = some [⟨0, 0, 2, 1⟩] := by decide
example : comb cutF [⟨0, 0, 3, 3⟩] [⟨1, 1, 2, 2⟩] = some [⟨0, 0, 3, 1⟩, ⟨0, 1, 1, 2⟩, ⟨2, 1, 3, 2⟩, ⟨0, 2, 3, 3⟩] := by decide
example : setsL orF [⟨0, 0, 2, 2⟩, ⟨1, 1, 3, 3⟩] [] = [⟨0, 0, 2, 1⟩, ⟨0, 1, 3, 2⟩, ⟨1, 2, 3, 3⟩] := by decide
example : setsL cutF [⟨0, 0, 3, 3⟩] [⟨1, 1, 2, 2⟩] = [⟨0, 0, 3, 1⟩, ⟨0, 1, 1, 2⟩, ⟨2, 1, 3, 2⟩, ⟨0, 2, 3, 3⟩] := by decide

end Go.Proofs.YtamojciiacmjaaaDoor.Rg.Num
