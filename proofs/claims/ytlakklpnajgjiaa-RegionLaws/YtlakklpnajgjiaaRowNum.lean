/- Rows of cells, step by step: plain lists. -/
import Derived.Test.YtlakklpnajgjiaaSpec
namespace Go.Proofs.Ytlakklpnajgjiaa.Num
set_option linter.unusedVariables false

theorem drop_two {l : List Int} {i : Nat} {x x' : Int} (h : l[i]? = some x) (h' : l[i + 1]? = some x') : l.drop i = x :: l.drop (i + 1) ∧ l.drop (i + 1) = x' :: l.drop (i + 2) := by
  obtain ⟨h1, rfl⟩ := List.getElem?_eq_some_iff.1 h
  obtain ⟨h2, rfl⟩ := List.getElem?_eq_some_iff.1 h'
  exact ⟨List.drop_eq_getElem_cons h1, List.drop_eq_getElem_cons h2⟩
theorem drop_few {l : List Int} {i : Nat} (h : l.length ≤ i + 1) : l.drop i = [] ∨ ∃ x, l.drop i = [x] := by
  rcases Nat.lt_or_ge i l.length with h1 | h1
  · right
    refine ⟨l[i], ?_⟩
    rw [List.drop_eq_getElem_cons h1, List.drop_eq_nil_of_le h]
  · left
    exact List.drop_eq_nil_of_le h1

theorem rowL_step {want : Int → Bool} {y0 y1 : Int} {l : List Int} {i : Nat} {x x' : Int} (h : l[i]? = some x) (h' : l[i + 1]? = some x') (row : List R) :
    rowL want y0 y1 (l.drop i) row = rowL want y0 y1 (l.drop (i + 1)) (if want x = true then (if lastX1 row x = true then setX1 row x' else row ++ [⟨x, y0, x', y1⟩]) else row) := by
  obtain ⟨e1, e2⟩ := drop_two h h'
  rw [e1, e2]
  rfl
theorem rowL_done {want : Int → Bool} {y0 y1 : Int} {l : List Int} {i : Nat} (h : l.length ≤ i + 1) (row : List R) : rowL want y0 y1 (l.drop i) row = row := by
  rcases drop_few h with e | ⟨x, e⟩ <;> rw [e] <;> rfl

theorem last_at {row : List R} {m : Nat} {r : R} (h : row.length = m + 1) (hr : row[m]? = some r) : row.getLast? = some r := by
  rw [List.getLast?_eq_getElem?, h]
  exact hr
theorem lastX1_at {row : List R} {m : Nat} {r : R} (h : row.length = m + 1) (hr : row[m]? = some r) (x : Int) : lastX1 row x = decide (r.x1 = x) := by
  unfold lastX1
  rw [last_at h hr]
theorem setX1_at {row : List R} {m : Nat} {r : R} (h : row.length = m + 1) (hr : row[m]? = some r) (x : Int) : setX1 row x = row.set m ⟨r.x0, r.y0, x, r.y1⟩ := by
  unfold setX1
  rw [last_at h hr]
  dsimp only
  apply List.ext_getElem?
  intro j
  by_cases hj : j < m
  · rw [List.getElem?_append_left (by rw [List.length_dropLast]; omega), List.getElem?_set_ne (by omega), List.getElem?_dropLast, if_pos (by omega)]
  · by_cases e : j = m
    · subst e
      rw [List.getElem?_append_right (by rw [List.length_dropLast]; omega), List.length_dropLast, h, List.getElem?_set_self (by omega)]
      simp
    · rw [List.getElem?_eq_none (by rw [List.length_append, List.length_dropLast]; simp; omega), List.getElem?_eq_none (by rw [List.length_set]; omega)]

theorem sameRow_step {y : Int} {a b : List R} {k m : Nat} {r s : R} (hr : a[m + k]? = some r) (hs : b[k]? = some s) : sameRow y (a.drop (m + k)) (b.drop k) = if r.x0 = s.x0 ∧ r.x1 = s.x1 ∧ r.y1 = y then sameRow y (a.drop (m + (k + 1))) (b.drop (k + 1)) else false := by
  obtain ⟨h1, rfl⟩ := List.getElem?_eq_some_iff.1 hr
  obtain ⟨h2, rfl⟩ := List.getElem?_eq_some_iff.1 hs
  rw [List.drop_eq_getElem_cons h1, List.drop_eq_getElem_cons h2]
  rfl
theorem sameRow_len (y : Int) : ∀ {a b : List R}, a.length ≠ b.length → sameRow y a b = false
  | [], [], h => absurd rfl h
  | [], _ :: _, _ => rfl
  | _ :: _, [], _ => rfl
  | a :: l, b :: m, h => by
    unfold sameRow
    split
    · exact sameRow_len y (by simpa using h)
    · rfl

theorem rowsL_step {want : Int → Int → Bool} {xs l : List Int} {j : Nat} {y y' : Int} (h : l[j]? = some y) (h' : l[j + 1]? = some y') (out : List R) (last : Nat) :
    rowsL want xs (l.drop j) out last = if rowL (fun x => want x y) y y' xs [] ≠ [] ∧ sameRow y (out.drop last) (rowL (fun x => want x y) y y' xs []) = true then rowsL want xs (l.drop (j + 1)) (out.take last ++ (out.drop last).map (fun r => ⟨r.x0, r.y0, r.x1, y'⟩)) last
      else rowsL want xs (l.drop (j + 1)) (out ++ rowL (fun x => want x y) y y' xs []) out.length := by
  obtain ⟨e1, e2⟩ := drop_two h h'
  rw [e1, e2]
  rfl
theorem rowsL_done {want : Int → Int → Bool} {xs l : List Int} {j : Nat} (h : l.length ≤ j + 1) (out : List R) (last : Nat) : rowsL want xs (l.drop j) out last = out := by
  rcases drop_few h with e | ⟨x, e⟩ <;> rw [e] <;> rfl

/-- the last band, so many of its rectangles made longer -/
def ext (out : List R) (y : Int) (last : Nat) : Nat → List R
  | 0 => out
  | i + 1 => match (ext out y last i)[last + i]? with
    | some r => (ext out y last i).set (last + i) ⟨r.x0, r.y0, r.x1, y⟩
    | none => ext out y last i
theorem ext_len (out : List R) (y : Int) (last : Nat) : ∀ i, (ext out y last i).length = out.length
  | 0 => rfl
  | i + 1 => by
    unfold ext
    split
    · rw [List.length_set]; exact ext_len out y last i
    · exact ext_len out y last i
theorem ext_far (out : List R) (y : Int) (last : Nat) : ∀ i j, (j < last ∨ last + i ≤ j) → (ext out y last i)[j]? = out[j]?
  | 0, j, h => rfl
  | i + 1, j, h => by
    have ih := ext_far out y last i j (by omega)
    unfold ext
    split
    · rw [List.getElem?_set_ne (by omega)]; exact ih
    · exact ih
theorem ext_in (out : List R) (y : Int) (last : Nat) : ∀ i j r, j < i → out[last + j]? = some r → (ext out y last i)[last + j]? = some ⟨r.x0, r.y0, r.x1, y⟩
  | 0, j, r, h, _ => absurd h (Nat.not_lt_zero _)
  | i + 1, j, r, h, hr => by
    unfold ext
    by_cases e : j = i
    · subst e
      have h1 : (ext out y last j)[last + j]? = some r := by rw [ext_far out y last j _ (.inr (Nat.le_refl _))]; exact hr
      rw [h1]
      dsimp only
      rw [List.getElem?_set_self (by rw [ext_len]; exact (List.getElem?_eq_some_iff.1 hr).1)]
    · have ih := ext_in out y last i j r (by omega) hr
      split
      · rw [List.getElem?_set_ne (by omega)]; exact ih
      · exact ih
theorem ext_all (out : List R) (y : Int) {last : Nat} (h : last ≤ out.length) : ext out y last (out.length - last) = out.take last ++ (out.drop last).map (fun r => ⟨r.x0, r.y0, r.x1, y⟩) := by
  apply List.ext_getElem?
  intro j
  by_cases hl : j < last
  · rw [ext_far out y last _ _ (.inl hl), List.getElem?_append_left (by rw [List.length_take]; omega), List.getElem?_take, if_pos hl]
  · obtain ⟨k, rfl⟩ : ∃ k, j = last + k := ⟨j - last, by omega⟩
    rw [List.getElem?_append_right (by rw [List.length_take]; omega), List.length_take, show last + k - min last out.length = k by omega, List.getElem?_map, List.getElem?_drop]
    by_cases hk : last + k < out.length
    · rw [ext_in out y last _ k _ (by omega) (List.getElem?_eq_getElem hk), List.getElem?_eq_getElem hk]
      rfl
    · rw [List.getElem?_eq_none (by rw [ext_len]; omega), List.getElem?_eq_none (by omega)]
      rfl

end Go.Proofs.Ytlakklpnajgjiaa.Num
