/- What is made in either way is the same. -/
import Derived.Test.YtlakklpnajgjiaaGrid
namespace Go.Proofs.Ytlakklpnajgjiaa.Num
set_option linter.unusedVariables false

/-- a region in bands, its rows within what a word holds -/
def Reg (l : List R) : Prop := ∃ bs, l = flats bs ∧ Good bs ∧ Bounded bs
def Fits (f : Bool → Bool → Bool) : Prop := f false false = false
theorem fits_or : Fits orF := rfl
theorem fits_and : Fits andF := rfl
theorem fits_cut : Fits cutF := rfl

theorem has_sets {f : Bool → Bool → Bool} (hf : Fits f) (a b : List R) (x z : Int) : hasL (setsL f a b) x z = wantL f a b x z := by
  obtain ⟨bs, e, -, h⟩ := sets_good hf a b
  rw [e]
  exact bool_iff (by rw [has_flats, h])
theorem flats_inj {l m : List Bd} (hl : Good l) (hm : Good m) (h : ∀ x z, hasL (flats l) x z = hasL (flats m) x z) : flats l = flats m := by
  rw [good_unique hl hm fun x z => by rw [← has_flats, ← has_flats, h x z]]
theorem sets_ext {f g : Bool → Bool → Bool} (hf : Fits f) (hg : Fits g) {a b c d : List R} (h : ∀ x z, wantL f a b x z = wantL g c d x z) : setsL f a b = setsL g c d := by
  obtain ⟨l, e1, g1, -⟩ := sets_good hf a b
  obtain ⟨m, e2, g2, -⟩ := sets_good hg c d
  rw [e1, e2]
  refine flats_inj g1 g2 fun x z => ?_
  rw [← e1, ← e2, has_sets hf, has_sets hg, h]
theorem sets_reg {f : Bool → Bool → Bool} (hf : Fits f) {a : List R} (ha : Reg a) {c d : List R} (h : ∀ x z, wantL f c d x z = hasL a x z) : setsL f c d = a := by
  obtain ⟨l, rfl, g1, -⟩ := ha
  obtain ⟨m, e2, g2, -⟩ := sets_good hf c d
  rw [e2]
  refine flats_inj g2 g1 fun x z => ?_
  rw [← e2, has_sets hf, h]
theorem want_or_nil (a : List R) (x z : Int) : wantL orF a [] x z = hasL a x z := by
  unfold wantL orF
  have : hasL [] x z = false := rfl
  rw [this, Bool.or_false]
theorem comb_sets {f : Bool → Bool → Bool} (hf : Fits f) {a b : List R} (ha : Reg a) (hb : Reg b) : comb f a b = some (setsL f a b) := by
  obtain ⟨A, rfl, gA, bA⟩ := ha
  obtain ⟨B, rfl, gB, bB⟩ := hb
  obtain ⟨out, e, g, h⟩ := comb_good hf gA gB bA bB
  rw [e]
  obtain ⟨m, e2, g2, h2⟩ := sets_good hf (flats A) (flats B)
  rw [e2, good_unique g g2 fun x z => by rw [h, h2]]

theorem has_ok {l : List R} (hl : ∀ r ∈ l, Ok r) {x z : Int} (h : hasL l x z = true) : -4398046511104 ≤ z ∧ z < 4398046511104 ∧ -4398046511104 ≤ x ∧ x < 4398046511104 := by
  obtain ⟨r, hr, h⟩ := List.any_eq_true.1 h
  have h1 := of_decide_eq_true h
  have h2 := hl r hr
  unfold Ok at h2
  omega
theorem reg_sets {f : Bool → Bool → Bool} (hf : Fits f) {a b : List R} (ha : ∀ r ∈ a, Ok r) (hb : ∀ r ∈ b, Ok r) : Reg (setsL f a b) ∧ ∀ r ∈ setsL f a b, Ok r := by
  obtain ⟨bs, e, g, h⟩ := sets_good hf a b
  have hin : ∀ x z, inBs bs x z → -4398046511104 ≤ z ∧ z < 4398046511104 ∧ -4398046511104 ≤ x ∧ x < 4398046511104 := by
    intro x z hx
    have hw := (h x z).1 hx
    unfold wantL at hw
    rcases h1 : hasL a x z with _ | _
    · rcases h2 : hasL b x z with _ | _
      · rw [h1, h2, hf] at hw; cases hw
      · exact has_ok hb h2
    · exact has_ok ha h1
  have hbd : ∀ c ∈ bs, -4398046511104 ≤ c.y0 ∧ c.y1 ≤ 4398046511104 := by
    intro c hc
    have hk := g.1 c hc
    obtain ⟨x, hx⟩ := ne_some hk.2.2 hk.2.1
    have h1 := hin x c.y0 ⟨c, hc, ⟨Int.le_refl _, hk.1⟩, hx⟩
    have h2 := hin x (c.y1 - 1) ⟨c, hc, ⟨by have := hk.1; omega, by omega⟩, hx⟩
    omega
  refine ⟨⟨bs, e, g, fun c hc => by have := hbd c hc; omega⟩, fun r hr => ?_⟩
  rw [e] at hr
  simp only [flats, List.mem_flatMap, flatB, rects, List.mem_map] at hr
  obtain ⟨c, hc, p, hp, rfl⟩ := hr
  have hk := g.1 c hc
  have hpp := hk.2.2.1 p hp
  have h0 := hbd c hc
  have h1 := hin p.a c.y0 ⟨c, hc, ⟨Int.le_refl _, hk.1⟩, p, hp, Int.le_refl _, hpp⟩
  have h2 := hin (p.b - 1) c.y0 ⟨c, hc, ⟨Int.le_refl _, hk.1⟩, p, hp, by omega, by omega⟩
  have := hk.1
  unfold Ok
  dsimp only
  omega

theorem rowL_len (W : Int → Bool) (y0 y1 : Int) : ∀ (xs : List Int) (row : List R), (rowL W y0 y1 xs row).length ≤ row.length + xs.length
  | [], row => Nat.le_refl _
  | [x], row => by show row.length ≤ _; simp
  | x :: x' :: t, row => by
    have ih := rowL_len W y0 y1 (x' :: t) (if W x = true then (if lastX1 row x = true then setX1 row x' else row ++ [⟨x, y0, x', y1⟩]) else row)
    have hs : (setX1 row x').length ≤ row.length := by
      unfold setX1
      cases hr : row.getLast? with
      | none => exact Nat.le_refl _
      | some r =>
        dsimp only
        have : 0 < row.length := by
          cases row with
          | nil => cases hr
          | cons s t => simp
        rw [List.length_append, List.length_dropLast]
        simp only [List.length_cons, List.length_nil]
        omega
    have h1 : (if W x = true then (if lastX1 row x = true then setX1 row x' else row ++ [⟨x, y0, x', y1⟩]) else row).length ≤ row.length + 1 := by
      split
      · split
        · omega
        · simp
      · omega
    show (rowL W y0 y1 (x' :: t) _).length ≤ _
    simp only [List.length_cons] at *
    omega
theorem rowsL_len (want : Int → Int → Bool) (xs : List Int) : ∀ (ys : List Int) (out : List R) (last : Nat), last ≤ out.length → (rowsL want xs ys out last).length ≤ out.length + ys.length * xs.length
  | [], out, last, _ => by show out.length ≤ _; omega
  | [y], out, last, _ => by show out.length ≤ _; omega
  | y :: y' :: t, out, last, hl => by
    have hr := rowL_len (fun x => want x y) y y' xs []
    have e : rowsL want xs (y :: y' :: t) out last = if rowL (fun x => want x y) y y' xs [] ≠ [] ∧ sameRow y (out.drop last) (rowL (fun x => want x y) y y' xs []) = true then rowsL want xs (y' :: t) (out.take last ++ (out.drop last).map (fun r => ⟨r.x0, r.y0, r.x1, y'⟩)) last else rowsL want xs (y' :: t) (out ++ rowL (fun x => want x y) y y' xs []) out.length := rfl
    rw [e]
    have hm : (y :: y' :: t).length * xs.length = xs.length + (y' :: t).length * xs.length := by rw [List.length_cons (a := y), Nat.add_mul, Nat.one_mul]; omega
    rw [hm]
    split
    · have ih := rowsL_len want xs (y' :: t) (out.take last ++ (out.drop last).map (fun r => ⟨r.x0, r.y0, r.x1, y'⟩)) last (by rw [List.length_append, List.length_take]; omega)
      rw [List.length_append, List.length_take, List.length_map, List.length_drop] at ih
      omega
    · have ih := rowsL_len want xs (y' :: t) (out ++ rowL (fun x => want x y) y y' xs []) out.length (by rw [List.length_append]; omega)
      rw [List.length_append] at ih
      simp only [List.length_nil] at hr
      omega
theorem filter_two' (x : Int) : ∀ l : List Int, (l.filter fun m => decide (m < x)).length + (l.filter fun m => decide (x < m)).length ≤ l.length
  | [] => by simp
  | m :: l => by
    have ih := filter_two' x l
    simp only [List.filter_cons]
    by_cases h1 : m < x
    · have h2 : ¬ x < m := by omega
      simp only [h1, h2, decide_true, decide_false, if_true, List.length_cons]
      simp
      omega
    · by_cases h2 : x < m
      · simp only [h1, h2, decide_true, decide_false, List.length_cons]
        simp
        omega
      · simp only [h1, h2, decide_false, List.length_cons]
        simp
        omega
theorem put_len' (l : List Int) (x : Int) : (putL l x).length ≤ l.length + 1 := by
  unfold putL
  rw [List.length_append, List.length_cons]
  have := filter_two' x l
  omega
theorem xs_foldlen : ∀ (l : List R) (acc : List Int), (l.foldl (fun xs r => if empB r = true then xs else putL (putL xs r.x0) r.x1) acc).length ≤ acc.length + 2 * l.length
  | [], acc => by simp
  | r :: l, acc => by
    have ih := xs_foldlen l (if empB r = true then acc else putL (putL acc r.x0) r.x1)
    have h1 := put_len' acc r.x0
    have h2 := put_len' (putL acc r.x0) r.x1
    rw [List.foldl_cons, List.length_cons]
    by_cases he : empB r = true
    · rw [if_pos he] at ih ⊢; omega
    · rw [if_neg he] at ih ⊢; omega
theorem ys_foldlen : ∀ (l : List R) (acc : List Int), (l.foldl (fun xs r => if empB r = true then xs else putL (putL xs r.y0) r.y1) acc).length ≤ acc.length + 2 * l.length
  | [], acc => by simp
  | r :: l, acc => by
    have ih := ys_foldlen l (if empB r = true then acc else putL (putL acc r.y0) r.y1)
    have h1 := put_len' acc r.y0
    have h2 := put_len' (putL acc r.y0) r.y1
    rw [List.foldl_cons, List.length_cons]
    by_cases he : empB r = true
    · rw [if_pos he] at ih ⊢; omega
    · rw [if_neg he] at ih ⊢; omega
theorem sets_len (f : Bool → Bool → Bool) (a b : List R) {N : Nat} (h : a.length + b.length ≤ N) : (setsL f a b).length ≤ (2 * N) * (2 * N) := by
  have h1 := rowsL_len (wantL f a b) (xsOf (a ++ b)) (ysOf (a ++ b)) [] 0 (Nat.le_refl _)
  have h2 := xs_foldlen (a ++ b) []
  have h3 := ys_foldlen (a ++ b) []
  rw [List.length_append] at h2 h3
  simp only [List.length_nil, Nat.zero_add] at h1 h2 h3
  exact Nat.le_trans h1 (Nat.mul_le_mul (by unfold ysOf; omega) (by unfold xsOf; omega))

theorem meet_all {r : R} (h : Ok r) : meet r ⟨-4398046511104, -4398046511104, 4398046511104, 4398046511104⟩ = orN r := by
  unfold Ok at h
  unfold meet mx mn
  dsimp only
  congr 1
  cases r
  simp only [R.mk.injEq]
  dsimp only at h
  omega
theorem one_sets {r : R} (h : Ok r) : oneL r = setsL orF [r] [] := by
  have hreg : Reg (oneL r) := by
    unfold oneL
    rw [meet_all h]
    by_cases he : empB r = true
    · rw [orN_yes he]
      exact ⟨[], rfl, good_nil, fun b hb => by cases hb⟩
    · have he' : empB r = false := by simpa using he
      have := of_some he'
      rw [orN_no he', if_neg he]
      refine ⟨[⟨r.y0, r.y1, [⟨r.x0, r.x1⟩]⟩], by simp [flats, flatB, rects], good_cons.2 ⟨⟨this.2, by simp, sep_cons.2 ⟨this.1, fun q hq => (by cases hq), sep_nil⟩⟩, fun q hq => (by cases hq), good_nil⟩, fun b hb => ?_⟩
      rw [List.mem_singleton] at hb
      subst hb
      unfold Ok at h
      dsimp only
      omega
  refine (sets_reg fits_or hreg fun x z => ?_).symm
  rw [want_or_nil]
  unfold oneL
  rw [meet_all h]
  by_cases he : empB r = true
  · rw [orN_yes he]
    have : empB nil = true := by decide
    rw [if_pos this]
    simp [hasL, has_empty he]
  · have he' : empB r = false := by simpa using he
    rw [orN_no he', if_neg he]
theorem of_sets : ∀ (k : Nat) (l : List R), l.length < k → (∀ r ∈ l, Ok r) → ofL k l = some (setsL orF l [])
  | 0, l, h, _ => absurd h (Nat.not_lt_zero _)
  | k + 1, [], _, _ => rfl
  | k + 1, [r], _, h => by
    show some (oneL r) = _
    rw [one_sets (h r List.mem_cons_self)]
  | k + 1, r :: s :: t, hk, h => by
    have hlen : (r :: s :: t).length = t.length + 2 := by simp
    obtain ⟨l, hl⟩ : ∃ l, l = r :: s :: t := ⟨_, rfl⟩
    have hA : ∀ x ∈ l.take (l.length / 2), Ok x := fun x hx => h x (by rw [← hl]; exact List.mem_of_mem_take hx)
    have hB : ∀ x ∈ l.drop (l.length / 2), Ok x := fun x hx => h x (by rw [← hl]; exact List.mem_of_mem_drop hx)
    have ih1 := of_sets k (l.take (l.length / 2)) (by rw [List.length_take]; rw [← hl] at hlen hk; omega) hA
    have ih2 := of_sets k (l.drop (l.length / 2)) (by rw [List.length_drop]; rw [← hl] at hlen hk; omega) hB
    show (match ofL k ((r :: s :: t).take ((r :: s :: t).length / 2)), ofL k ((r :: s :: t).drop ((r :: s :: t).length / 2)) with
      | some a, some b => comb orF a b
      | _, _ => none) = _
    rw [← hl, ih1, ih2]
    dsimp only
    have r1 := reg_sets fits_or hA (b := []) (fun x hx => by cases hx)
    have r2 := reg_sets fits_or hB (b := []) (fun x hx => by cases hx)
    rw [comb_sets fits_or r1.1 r2.1]
    congr 1
    refine sets_ext fits_or fits_or fun x z => ?_
    rw [want_or_nil]
    show orF (hasL (setsL orF (l.take (l.length / 2)) []) x z) (hasL (setsL orF (l.drop (l.length / 2)) []) x z) = hasL l x z
    rw [has_sets fits_or, has_sets fits_or, want_or_nil, want_or_nil]
    show (_ || _) = _
    rw [← has_append, List.take_append_drop]

/-- a right region, by the document -/
def refRightB (a : List R) : Bool := (a.all fun r => rightB r && !empB r) && decide (a = setsL orF a [])
theorem of_refRight {a : List R} (h : refRightB a = true) : Reg a ∧ ∀ r ∈ a, Ok r := by
  unfold refRightB at h
  rw [Bool.and_eq_true] at h
  have hok : ∀ r ∈ a, Ok r := fun r hr => by
    have := List.all_eq_true.1 h.1 r hr
    rw [Bool.and_eq_true] at this
    exact of_right this.1
  refine ⟨?_, hok⟩
  have e := of_decide_eq_true h.2
  have := (reg_sets fits_or hok (b := []) (fun x hx => by cases hx)).1
  rw [← e] at this
  exact this

end Go.Proofs.Ytlakklpnajgjiaa.Num
