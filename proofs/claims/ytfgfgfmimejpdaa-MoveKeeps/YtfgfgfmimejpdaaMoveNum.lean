/- What is moved and repeated, as plain numbers: tiles, rows and columns over and over, means that are moved. -/
import Derived.Test.YtfgfgfmimejpdaaBlurNum
namespace Go.Proofs.Ytfgfgfmimejpdaa.Num
set_option linter.unusedVariables false

/-- a place within a tile's side -/
def inT (n a b : Int) : Int := a + (n - a) % (b - a)
def tileG (T : R) (f : Int → Int → X) (x y : Int) : X := f (inT x T.x0 T.x1) (inT y T.y0 T.y1)

theorem inT_of {n a b d : Int} (h : a < b) (hd : (b - a) ∣ d) (h0 : a + d ≤ n) (h1 : n < b + d) : inT n a b = n - d := by
  obtain ⟨k, rfl⟩ := hd
  unfold inT
  have e : n - a = (n - a - (b - a) * k) + (b - a) * k := by omega
  rw [e, Int.add_mul_emod_self_left, Int.emod_eq_of_lt (by omega) (by omega)]
  omega
theorem inT_own {n a b : Int} (h0 : a ≤ n) (h1 : n < b) : inT n a b = n := by
  have := inT_of (n := n) (a := a) (b := b) (d := 0) (by omega) ⟨0, by simp⟩ (by omega) (by omega)
  omega
theorem inT_bd {a b : Int} (h : a < b) (n : Int) : a ≤ inT n a b ∧ inT n a b < b := by
  unfold inT
  have h1 := Int.emod_nonneg (n - a) (b := b - a) (by omega)
  have h2 := Int.emod_lt_of_pos (n - a) (b := b - a) (by omega)
  omega
theorem inT_far (n a b k : Int) : inT (n + (b - a) * k) a b = inT n a b := by
  unfold inT
  rw [show n + (b - a) * k - a = (n - a) + (b - a) * k by omega, Int.add_mul_emod_self_left]
theorem inT_rep (n c a b : Int) : inT (c + (n - c) % (b - a)) a b = inT n a b := by
  have h3 := Int.mul_ediv_add_emod (n - c) (b - a)
  have e : c + (n - c) % (b - a) = n + (b - a) * (-((n - c) / (b - a))) := by rw [Int.mul_neg]; omega
  rw [e, inT_far]

/-- how far a repetition is away from the tile's own place -/
def awayI (n a s : Int) : Int := n - a - (n - a) % s
theorem away_dvd (n a s : Int) : s ∣ awayI n a s := by
  refine ⟨(n - a) / s, ?_⟩
  have h3 := Int.mul_ediv_add_emod (n - a) s
  unfold awayI
  omega
theorem away_bd {n a s : Int} (hs : 0 < s) : a + awayI n a s ≤ n ∧ n < a + awayI n a s + s := by
  unfold awayI
  have h1 := Int.emod_nonneg (n - a) (b := s) (by omega)
  have h2 := Int.emod_lt_of_pos (n - a) (b := s) (by omega)
  omega
theorem dvd_more {s d : Int} (h : s ∣ d) : s ∣ d + s := Int.dvd_add h ⟨1, by simp⟩

/-- what is done of the first width and height: rows ahead of b, and of those ahead of c the columns ahead of a -/
def stO (Fi T : R) (f : Int → Int → X) (b : Int) (x y : Int) : X := if hasB Fi x y = true ∧ y < b then tileG T f x y else noX
def stG (Fi T : R) (f : Int → Int → X) (a b c : Int) (x y : Int) : X := if hasB Fi x y = true ∧ (y < b ∨ (y < c ∧ x < a)) then tileG T f x y else noX
theorem hasB_iff {r : R} {x y : Int} : hasB r x y = true ↔ (r.x0 ≤ x ∧ x < r.x1) ∧ (r.y0 ≤ y ∧ y < r.y1) := by
  unfold hasB
  rw [decide_eq_true_eq]
  omega
theorem st_first {Fi T : R} {f : Int → Int → X} {b : Int} (h : b ≤ Fi.y0) : stO Fi T f b = fun _ _ => noX := by
  funext x y
  unfold stO
  rw [if_neg (fun hh => by have := hasB_iff.1 hh.1; omega)]
theorem st_row {Fi T : R} {f : Int → Int → X} {a b c : Int} (h : a ≤ Fi.x0) : stG Fi T f a b c = stO Fi T f b := by
  funext x y
  unfold stO stG
  by_cases e : hasB Fi x y = true ∧ y < b
  · rw [if_pos e, if_pos ⟨e.1, .inl e.2⟩]
  · rw [if_neg e, if_neg]
    rintro ⟨h1, h2 | h2⟩
    · exact e ⟨h1, h2⟩
    · have := hasB_iff.1 h1; omega
theorem st_end {Fi T : R} {f : Int → Int → X} {a b c : Int} (h : Fi.x1 ≤ a) (hbc : b ≤ c) : stG Fi T f a b c = stO Fi T f c := by
  funext x y
  unfold stO stG
  by_cases e : hasB Fi x y = true ∧ y < c
  · rw [if_pos e, if_pos ⟨e.1, .inr ⟨e.2, by have := hasB_iff.1 e.1; omega⟩⟩]
  · rw [if_neg e, if_neg]
    rintro ⟨h1, h2 | h2⟩
    · exact e ⟨h1, by omega⟩
    · exact e ⟨h1, h2.1⟩
theorem st_all {Fi T : R} {f : Int → Int → X} {b : Int} (h : Fi.y1 ≤ b) : stO Fi T f b = fun x y => if hasB Fi x y = true then tileG T f x y else noX := by
  funext x y
  unfold stO
  by_cases e : hasB Fi x y = true
  · rw [if_pos ⟨e, by have := hasB_iff.1 e; omega⟩, if_pos e]
  · rw [if_neg (fun hh => e hh.1), if_neg e]

theorem has_meet2 (B r : R) (x y : Int) : hasB (meet B r) x y = (hasB B x y && hasB r x y) := by
  unfold meet
  rw [has_orN, Bool.eq_iff_iff, Bool.and_eq_true, hasB_iff, hasB_iff, hasB_iff]
  unfold mx mn
  dsimp only
  omega
/-- near the middle nothing is cut -/
theorem has_move2 {r : R} {x y dx dy : Int} (h0 : -33554432 ≤ r.x0) (h1 : -33554432 ≤ r.y0) (h2 : r.x1 ≤ 33554432) (h3 : r.y1 ≤ 33554432) (he : empB r = false) (hx : -268435456 ≤ dx ∧ dx ≤ 268435456) (hy : -268435456 ≤ dy ∧ dy ≤ 268435456) :
    hasB (moveR r dx dy) x y = hasB r (x - dx) (y - dy) := by
  obtain ⟨e1, e2⟩ := of_some he
  unfold moveR
  rw [if_neg (by simp [he])]
  unfold cutR
  rw [has_orN, mvd_in (by omega), mvd_in (by omega), mvd_in (by omega), mvd_in (by omega), cutN_in (by omega), cutN_in (by omega), cutN_in (by omega), cutN_in (by omega), Bool.eq_iff_iff, hasB_iff, hasB_iff]
  dsimp only
  omega
/-- one repetition more -/
theorem st_step {Fi T : R} {f : Int → Int → X} {dx dy : Int} (h0 : -33554432 ≤ T.x0) (h1 : -33554432 ≤ T.y0) (h2 : T.x1 ≤ 33554432) (h3 : T.y1 ≤ 33554432) (he : empB T = false) (hx : -268435456 ≤ dx ∧ dx ≤ 268435456) (hy : -268435456 ≤ dy ∧ dy ≤ 268435456) (ex : (T.x1 - T.x0) ∣ dx) (ey : (T.y1 - T.y0) ∣ dy) :
    copyG (meet Fi (moveR T dx dy)) f dx dy (stG Fi T f (T.x0 + dx) (T.y0 + dy) (T.y1 + dy)) = stG Fi T f (T.x1 + dx) (T.y0 + dy) (T.y1 + dy) := by
  obtain ⟨e1, e2⟩ := of_some he
  funext x y
  unfold copyG
  rw [has_meet2, has_move2 h0 h1 h2 h3 he hx hy]
  by_cases c : hasB Fi x y = true ∧ hasB T (x - dx) (y - dy) = true
  · have c2 := hasB_iff.1 c.2
    rw [if_pos (by rw [c.1, c.2]; rfl)]
    unfold stG
    rw [if_pos ⟨c.1, .inr ⟨by omega, by omega⟩⟩]
    unfold tileG
    rw [inT_of e1 ex (by omega) (by omega), inT_of e2 ey (by omega) (by omega)]
  · rw [if_neg (by rw [Bool.and_eq_true]; exact c)]
    unfold stG
    by_cases d : hasB Fi x y = true ∧ (y < T.y0 + dy ∨ (y < T.y1 + dy ∧ x < T.x0 + dx))
    · rw [if_pos d, if_pos ⟨d.1, by omega⟩]
    · rw [if_neg d, if_neg]
      rintro ⟨d1, d2⟩
      refine d ⟨d1, ?_⟩
      have c3 : ¬ hasB T (x - dx) (y - dy) = true := fun hh => c ⟨d1, hh⟩
      rw [hasB_iff] at c3
      omega

/-- a list's part that is its first n over and over -/
structure Rep (L L' : List X) (s K n : Nat) : Prop where
  len : L'.length = L.length
  get : ∀ i, i < L.length → L'[i]? = if s ≤ i ∧ i < s + K then L[s + (i - s) % n]? else L[i]?
theorem rep_start (L : List X) (s n : Nat) : Rep L L s n n := by
  refine ⟨rfl, fun i hi => ?_⟩
  by_cases h : s ≤ i ∧ i < s + n
  · rw [if_pos h, Nat.mod_eq_of_lt (by omega)]
    congr 1
    omega
  · rw [if_neg h]
/-- what is there already is put behind it -/
theorem rep_more {L L' : List X} {s p n k K : Nat} (h : Rep L L' s p n) (hn : n ∣ p) (hp : 0 < n) (hk : k = Nat.min p (K - p)) (hpK : p < K) (hK : s + K ≤ L.length) :
    Rep L (setL L' (s + p) ((L'.drop s).take k)) s (p + k) n := by
  have hk1 : k ≤ p := by rw [hk]; exact Nat.min_le_left _ _
  have hk2 : k ≤ K - p := by rw [hk]; exact Nat.min_le_right _ _
  have hl := h.len
  have htk : ((L'.drop s).take k).length = k := by rw [List.length_take, List.length_drop]; omega
  refine ⟨by rw [setL_len (by rw [htk]; omega), hl], fun i hi => ?_⟩
  have hs : (L'.take (s + p)).length = s + p := by rw [List.length_take]; omega
  unfold setL
  rw [htk]
  by_cases h1 : i < s + p
  · rw [List.append_assoc, List.getElem?_append_left (by omega), List.getElem?_take, if_pos h1, h.get i hi]
    by_cases h2 : s ≤ i
    · rw [if_pos ⟨h2, h1⟩, if_pos ⟨h2, by omega⟩]
    · rw [if_neg (by omega), if_neg (by omega)]
  · by_cases h2 : i < s + p + k
    · rw [List.append_assoc, List.getElem?_append_right (by omega), hs, List.getElem?_append_left (by omega), List.getElem?_take, if_pos (by omega), List.getElem?_drop, h.get _ (by omega), if_pos ⟨by omega, by omega⟩, if_pos ⟨by omega, by omega⟩]
      obtain ⟨q, rfl⟩ := hn
      have e : i - s = (s + (i - (s + n * q)) - s) + n * q := by omega
      rw [e, Nat.add_mul_mod_self_left]
    · rw [List.append_assoc, List.getElem?_append_right (by omega), hs, List.getElem?_append_right (by omega), htk, List.getElem?_drop, if_neg (by omega)]
      have e : s + p + k + (i - (s + p) - k) = i := by omega
      rw [e, h.get i hi, if_neg (by omega)]
theorem rep_grow {L L' : List X} {s p n K : Nat} (h : Rep L L' s p n) (hK : p = K) : Rep L L' s K n := hK ▸ h

/-- a row over and over -/
def rowR (M : R) (n0 : Int) (y : Int) (F : Int → Int → X) (x' y' : Int) : X := if y' = y then F (M.x0 + (x' - M.x0) % n0) y' else F x' y'
theorem rep_row {M : R} {F : Int → Int → X} {L' : List X} {y : Int} {n0 : Nat} (hy : M.y0 ≤ y ∧ y < M.y1) (hn : 0 < n0) (hn2 : n0 ≤ wid M) (h : Rep (img M F) L' (posN M M.x0 y) (wid M) n0) : L' = img M (rowR M (n0 : Int) y F) := by
  apply List.ext_getElem?
  intro i
  by_cases hi : i < wid M * hei M
  · rw [h.get i (by rw [img_len]; exact hi), img_get M F hi, img_get M (rowR M (n0 : Int) y F) hi]
    obtain ⟨h1, h2, h3, h4⟩ := of_pos hi
    have hb := hasB_iff.1 h1
    unfold rowR posN
    have ev : i % wid M < wid M := h3
    rw [show (M.x0 - M.x0).toNat = 0 by omega, Nat.add_zero]
    have key : ((y - M.y0).toNat * wid M ≤ i ∧ i < (y - M.y0).toNat * wid M + wid M) ↔ M.y0 + ((i / wid M : Nat) : Int) = y := by
      generalize i / wid M = v at *
      generalize i % wid M = u at *
      have hor : v < (y - M.y0).toNat ∨ v = (y - M.y0).toNat ∨ (y - M.y0).toNat < v := by omega
      rcases hor with hv | hv | hv
      · have : (v + 1) * wid M ≤ (y - M.y0).toNat * wid M := Nat.mul_le_mul_right _ hv
        rw [Nat.add_mul] at this
        omega
      · subst hv
        generalize (y - M.y0).toNat * wid M = t at *
        omega
      · have : ((y - M.y0).toNat + 1) * wid M ≤ v * wid M := Nat.mul_le_mul_right _ hv
        rw [Nat.add_mul] at this
        omega
    by_cases hr : M.y0 + ((i / wid M : Nat) : Int) = y
    · rw [if_pos (key.2 hr), if_pos hr]
      have e1 : i - (y - M.y0).toNat * wid M = i % wid M := by
        have : (y - M.y0).toNat = i / wid M := by omega
        rw [this]
        generalize i / wid M * wid M = t at *
        omega
      rw [e1]
      have hlt : i % wid M % n0 < wid M := Nat.lt_of_le_of_lt (Nat.mod_le _ _) h3
      have hpos : (y - M.y0).toNat * wid M + i % wid M % n0 < wid M * hei M := row_lt hlt (by unfold hei; omega)
      rw [img_get M F hpos]
      obtain ⟨d1, d2⟩ := dm (v := (y - M.y0).toNat) hlt
      rw [d1, d2]
      congr 2
      · have : M.x0 + ((i % wid M : Nat) : Int) - M.x0 = ((i % wid M : Nat) : Int) := by omega
        rw [this]
        rfl
      · omega
    · rw [if_neg (fun hh => hr (key.1 hh)), if_neg hr]
  · rw [List.getElem?_eq_none (by rw [h.len, img_len]; omega), List.getElem?_eq_none (by rw [img_len]; omega)]
/-- rows over and over -/
def allR (M : R) (h0 : Int) (F : Int → Int → X) (x y : Int) : X := F x (M.y0 + (y - M.y0) % h0)
theorem rep_all {M : R} {F : Int → Int → X} {L' : List X} {h0 : Nat} (hh : 0 < h0) (hh2 : h0 ≤ hei M) (h : Rep (img M F) L' 0 (wid M * hei M) (h0 * wid M)) : L' = img M (allR M (h0 : Int) F) := by
  apply List.ext_getElem?
  intro i
  by_cases hi : i < wid M * hei M
  · rw [h.get i (by rw [img_len]; exact hi), img_get M (allR M (h0 : Int) F) hi, if_pos ⟨by omega, by omega⟩, Nat.zero_add, Nat.sub_zero]
    obtain ⟨h1, h2, h3, h4⟩ := of_pos hi
    have hb := hasB_iff.1 h1
    have e : i % (h0 * wid M) = (i / wid M % h0) * wid M + i % wid M := by
      rw [Nat.mul_comm h0, Nat.mod_mul, Nat.add_comm, Nat.mul_comm (wid M)]
    have hlt : i / wid M % h0 < hei M := Nat.lt_of_lt_of_le (Nat.mod_lt _ hh) hh2
    have hpos : (i / wid M % h0) * wid M + i % wid M < wid M * hei M := row_lt h3 hlt
    rw [e, img_get M F hpos]
    obtain ⟨d1, d2⟩ := dm (v := i / wid M % h0) h3
    rw [d1, d2]
    unfold allR
    congr 2
    have : M.y0 + ((i / wid M : Nat) : Int) - M.y0 = ((i / wid M : Nat) : Int) := by omega
    rw [this]
    rfl
  · rw [List.getElem?_eq_none (by rw [h.len, img_len]; omega), List.getElem?_eq_none (by rw [img_len]; omega)]

/-- while rows are made: those of the first height ahead of y are whole -/
def rowsT (Fi T : R) (f : Int → Int → X) (y : Int) (x' y' : Int) : X := if Fi.y0 ≤ y' ∧ y' < y then tileG T f x' y' else if hasB Fi x' y' = true then tileG T f x' y' else noX
/-- the first width and height -/
def firstR (M T : R) : R := ⟨M.x0, M.y0, mn M.x1 (M.x0 + (T.x1 - T.x0)), mn M.y1 (M.y0 + (T.y1 - T.y0))⟩
theorem rows_step {M T : R} {f : Int → Int → X} {y : Int} (hM : empB M = false) (hT : empB T = false) (hy : M.y0 ≤ y ∧ y < (firstR M T).y1) :
    img M (rowR M ((firstR M T).x1 - M.x0) y (rowsT (firstR M T) T f y)) = img M (rowsT (firstR M T) T f (y + 1)) := by
  obtain ⟨m1, m2⟩ := of_some hM
  obtain ⟨t1, t2⟩ := of_some hT
  apply img_ext
  intro x' y' hb
  have hb := hasB_iff.1 hb
  unfold rowR
  have hy0 : (firstR M T).y0 = M.y0 := rfl
  have hx0 : (firstR M T).x0 = M.x0 := rfl
  by_cases e : y' = y
  · rw [if_pos e]
    subst e
    have hn : 0 < (firstR M T).x1 - M.x0 := by unfold firstR mn; dsimp only; omega
    have h1 := Int.emod_nonneg (x' - M.x0) (b := (firstR M T).x1 - M.x0) (by omega)
    have h2 := Int.emod_lt_of_pos (x' - M.x0) (b := (firstR M T).x1 - M.x0) hn
    unfold rowsT
    rw [if_neg (by omega), if_pos (hasB_iff.2 (by omega)), if_pos (by omega)]
    unfold tileG
    congr 1
    by_cases c : M.x1 ≤ M.x0 + (T.x1 - T.x0)
    · have e1 : (firstR M T).x1 = M.x1 := by unfold firstR mn; dsimp only; omega
      rw [e1, Int.emod_eq_of_lt (by omega) (by omega)]
      congr 1
      omega
    · have e1 : (firstR M T).x1 - M.x0 = T.x1 - T.x0 := by unfold firstR mn; dsimp only; omega
      rw [e1]
      exact inT_rep _ _ _ _
  · rw [if_neg e]
    unfold rowsT
    by_cases c : (firstR M T).y0 ≤ y' ∧ y' < y
    · rw [if_pos c, if_pos (by omega)]
    · have c2 : ¬ ((firstR M T).y0 ≤ y' ∧ y' < y + 1) := by omega
      rw [if_neg c, if_neg c2]
theorem rows_start {M T : R} {f : Int → Int → X} : rowsT (firstR M T) T f M.y0 = fun x y => if hasB (firstR M T) x y = true then tileG T f x y else noX := by
  funext x y
  unfold rowsT
  rw [if_neg (by show ¬ (M.y0 ≤ y ∧ y < M.y0); omega)]
theorem rows_end {M T : R} {f : Int → Int → X} (hM : empB M = false) (hT : empB T = false) : img M (allR M ((firstR M T).y1 - M.y0) (rowsT (firstR M T) T f (firstR M T).y1)) = img M (tileG T f) := by
  obtain ⟨m1, m2⟩ := of_some hM
  obtain ⟨t1, t2⟩ := of_some hT
  apply img_ext
  intro x y hb
  have hb := hasB_iff.1 hb
  have hy0 : (firstR M T).y0 = M.y0 := rfl
  have hn : 0 < (firstR M T).y1 - M.y0 := by unfold firstR mn; dsimp only; omega
  have h1 := Int.emod_nonneg (y - M.y0) (b := (firstR M T).y1 - M.y0) (by omega)
  have h2 := Int.emod_lt_of_pos (y - M.y0) (b := (firstR M T).y1 - M.y0) hn
  unfold allR rowsT
  rw [if_pos (by omega)]
  unfold tileG
  congr 1
  by_cases c : M.y1 ≤ M.y0 + (T.y1 - T.y0)
  · have e1 : (firstR M T).y1 = M.y1 := by unfold firstR mn; dsimp only; omega
    rw [e1, Int.emod_eq_of_lt (by omega) (by omega)]
    congr 1
    omega
  · have e1 : (firstR M T).y1 - M.y0 = T.y1 - T.y0 := by unfold firstR mn; dsimp only; omega
    rw [e1]
    exact inT_rep _ _ _ _

/-- means that are moved -/
theorem row_move (u : Int → Int → X) (dx dy : Int) (r : Nat) (x y : Int) : rowG (fun a b => u (a - dx) (b - dy)) r x y = rowG u r (x - dx) (y - dy) := by
  unfold rowG
  rw [sum_ext (g := fun v => u v (y - dy)) _ (x - dx - (r : Int)) _ (fun k hk => by
    show u (x - (r : Int) + (k : Int) - dx) (y - dy) = u (x - dx - (r : Int) + (k : Int)) (y - dy)
    congr 1
    omega)]
theorem blur_move (u : Int → Int → X) (dx dy : Int) (rx ry : Nat) (x y : Int) : blurG (fun a b => u (a - dx) (b - dy)) rx ry x y = blurG u rx ry (x - dx) (y - dy) := by
  unfold blurG colG
  rw [sum_ext (g := fun v => rowG u rx (x - dx) v) _ (y - dy - (ry : Int)) _ (fun k hk => by
    show rowG (fun a b => u (a - dx) (b - dy)) rx x (y - (ry : Int) + (k : Int)) = rowG u rx (x - dx) (y - dy - (ry : Int) + (k : Int))
    rw [row_move]
    congr 1
    omega)]
theorem blur_ext {u v : Int → Int → X} {rx ry : Nat} {x y : Int} (h : ∀ a b, x - (rx : Int) ≤ a → a ≤ x + (rx : Int) → y - (ry : Int) ≤ b → b ≤ y + (ry : Int) → u a b = v a b) : blurG u rx ry x y = blurG v rx ry x y := by
  unfold blurG
  apply col_ext
  intro b h1 h2
  apply row_ext
  intro a h3 h4
  exact h a b h3 h4 h1 h2
theorem blur_byte {u : Int → Int → X} (hb : ∀ x y, byteX (u x y)) (rx ry : Nat) (x y : Int) : byteX (blurG u rx ry x y) := col_byte (fun a b => row_byte hb rx a b) ry x y
/-- a small box moved: near the middle it has just the points that come in -/
theorem has_move5 {B : R} {a b dx dy : Int} (ho : Ok B) (he : empB B = false) (hw : B.x1 - B.x0 ≤ 5000) (hh : B.y1 - B.y0 ≤ 5000) (hx : -33554432 ≤ dx ∧ dx ≤ 33554432) (hy : -33554432 ≤ dy ∧ dy ≤ 33554432) (ha : -268435456 ≤ a ∧ a ≤ 268435456) (hb : -268435456 ≤ b ∧ b ≤ 268435456) :
    hasB (moveR B dx dy) a b = hasB B (a - dx) (b - dy) := by
  obtain ⟨⟨a0, a1⟩, ⟨b0, b1⟩, ⟨c0, c1⟩, d0, d1⟩ := ho
  obtain ⟨e1, e2⟩ := of_some he
  unfold moveR
  rw [if_neg (by simp [he])]
  unfold cutR
  rw [has_orN, Bool.eq_iff_iff, hasB_iff, hasB_iff]
  dsimp only
  unfold cutN mx mn mvd
  split <;> split <;> split <;> split <;> omega
theorem area_side {B : R} (he : empB B = false) (ha : area B ≤ 5000) : B.x1 - B.x0 ≤ 5000 ∧ B.y1 - B.y0 ≤ 5000 := by
  obtain ⟨e1, e2⟩ := of_some he
  rw [area_of he] at ha
  have h1 := prod_le (w := B.x1 - B.x0) (h := 1) (a := B.x1 - B.x0) (b := B.y1 - B.y0) (by omega) (by omega) (by omega) (by omega)
  have h2 := prod_le (w := 1) (h := B.y1 - B.y0) (a := B.x1 - B.x0) (b := B.y1 - B.y0) (by omega) (by omega) (by omega) (by omega)
  unfold mn at ha
  generalize (B.x1 - B.x0) * (B.y1 - B.y0) = P at *
  omega
end Go.Proofs.Ytfgfgfmimejpdaa.Num
