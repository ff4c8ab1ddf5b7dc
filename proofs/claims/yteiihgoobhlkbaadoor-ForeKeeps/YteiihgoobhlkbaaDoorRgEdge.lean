/- Edges: among which numbers the edges of regions are, and how many rectangles and bands there may be by that. -/
import Derived.Test.YteiihgoobhlkbaaDoorRgPlain
import Derived.Test.YteiihgoobhlkbaaDoorRgJoin
namespace Go.Proofs.YteiihgoobhlkbaaDoor.Rg.Num
set_option linter.unusedVariables false
open Go.Proofs.YteiihgoobhlkbaaDoor.Rg (Wd Cf)

/-- all edges are among these -/
def Wi (X Y : List Int) (l : List R) : Prop := ∀ r ∈ l, (r.x0 ∈ X ∧ r.x1 ∈ X) ∧ (r.y0 ∈ Y ∧ r.y1 ∈ Y)
theorem wi_nil (X Y : List Int) : Wi X Y [] := fun r hr => by cases hr
theorem wi_take {X Y : List Int} {l : List R} (h : Wi X Y l) (k : Nat) : Wi X Y (l.take k) := fun r hr => h r (List.mem_of_mem_take hr)
theorem wi_drop {X Y : List Int} {l : List R} (h : Wi X Y l) (k : Nat) : Wi X Y (l.drop k) := fun r hr => h r (List.mem_of_mem_drop hr)
theorem wi_app {X Y : List Int} {l m : List R} (h : Wi X Y l) (k : Wi X Y m) : Wi X Y (l ++ m) := fun r hr => by
  rcases List.mem_append.1 hr with hr | hr
  · exact h r hr
  · exact k r hr
theorem wi_mono {X Y X' Y' : List Int} {l : List R} (h : Wi X Y l) (hx : ∀ e ∈ X, e ∈ X') (hy : ∀ e ∈ Y, e ∈ Y') : Wi X' Y' l := fun r hr => ⟨⟨hx _ (h r hr).1.1, hx _ (h r hr).1.2⟩, ⟨hy _ (h r hr).2.1, hy _ (h r hr).2.2⟩⟩

theorem incr_len : ∀ {l X : List Int}, l.Pairwise (· < ·) → (∀ e ∈ l, e ∈ X) → l.length ≤ X.length
  | [], X, _, _ => Nat.zero_le _
  | e :: t, X, hp, hm => by
    obtain ⟨h1, h2⟩ := List.pairwise_cons.1 hp
    have he : e ∈ X := hm e List.mem_cons_self
    have ih := incr_len (l := t) (X := X.erase e) h2 fun d hd => by
      have hne : d ≠ e := by have := h1 d hd; omega
      exact (List.mem_erase_of_ne hne).2 (hm d (List.mem_cons_of_mem _ hd))
    rw [List.length_erase_of_mem he] at ih
    have : 0 < X.length := List.length_pos_of_mem he
    simp only [List.length_cons]
    omega

theorem xs_foldin (X : List Int) : ∀ (l : List R) (acc : List Int), (∀ e ∈ acc, e ∈ X) → (∀ r ∈ l, r.x0 ∈ X ∧ r.x1 ∈ X) → ∀ e ∈ l.foldl (fun xs r => if empB r = true then xs else putL (putL xs r.x0) r.x1) acc, e ∈ X
  | [], acc, ha, _ => ha
  | r :: l, acc, ha, hl => by
    rw [List.foldl_cons]
    refine xs_foldin X l _ ?_ fun s hs => hl s (List.mem_cons_of_mem _ hs)
    split
    · exact ha
    · intro e he
      have hr := hl r List.mem_cons_self
      rcases (put_mem _ _ _).1 he with rfl | he
      · exact hr.2
      · rcases (put_mem _ _ _).1 he with rfl | he
        · exact hr.1
        · exact ha e he
theorem ys_foldin (X : List Int) : ∀ (l : List R) (acc : List Int), (∀ e ∈ acc, e ∈ X) → (∀ r ∈ l, r.y0 ∈ X ∧ r.y1 ∈ X) → ∀ e ∈ l.foldl (fun xs r => if empB r = true then xs else putL (putL xs r.y0) r.y1) acc, e ∈ X
  | [], acc, ha, _ => ha
  | r :: l, acc, ha, hl => by
    rw [List.foldl_cons]
    refine ys_foldin X l _ ?_ fun s hs => hl s (List.mem_cons_of_mem _ hs)
    split
    · exact ha
    · intro e he
      have hr := hl r List.mem_cons_self
      rcases (put_mem _ _ _).1 he with rfl | he
      · exact hr.2
      · rcases (put_mem _ _ _).1 he with rfl | he
        · exact hr.1
        · exact ha e he
theorem xs_in {X Y : List Int} {l : List R} (h : Wi X Y l) : ∀ e ∈ xsOf l, e ∈ X := xs_foldin X l [] (fun e he => by cases he) fun r hr => (h r hr).1
theorem ys_in {X Y : List Int} {l : List R} (h : Wi X Y l) : ∀ e ∈ ysOf l, e ∈ Y := ys_foldin Y l [] (fun e he => by cases he) fun r hr => (h r hr).2
theorem xs_few {X Y : List Int} {l : List R} (h : Wi X Y l) : (xsOf l).length ≤ X.length := incr_len (xs_fold l [] List.Pairwise.nil).1 (xs_in h)
theorem ys_few {X Y : List Int} {l : List R} (h : Wi X Y l) : (ysOf l).length ≤ Y.length := incr_len (ys_fold l [] List.Pairwise.nil).1 (ys_in h)

theorem rowL_in (W : Int → Bool) (y0 y1 : Int) (X Y : List Int) (hy0 : y0 ∈ Y) (hy1 : y1 ∈ Y) : ∀ (xs : List Int) (row : List R), (∀ e ∈ xs, e ∈ X) → Wi X Y row → Wi X Y (rowL W y0 y1 xs row)
  | [], row, _, h => h
  | [x], row, _, h => h
  | x :: x' :: t, row, hx, h => by
    have ih := rowL_in W y0 y1 X Y hy0 hy1 (x' :: t) (if W x = true then (if lastX1 row x = true then setX1 row x' else row ++ [⟨x, y0, x', y1⟩]) else row) (fun e he => hx e (List.mem_cons_of_mem _ he)) (by
      have hx0 : x ∈ X := hx x List.mem_cons_self
      have hx1 : x' ∈ X := hx x' (List.mem_cons_of_mem _ List.mem_cons_self)
      split
      · split
        · unfold setX1
          cases hr : row.getLast? with
          | none => exact h
          | some r =>
            dsimp only
            have hm : r ∈ row := List.mem_of_getLast? hr
            intro s hs
            rcases List.mem_append.1 hs with hs | hs
            · exact h s ((List.dropLast_sublist row).subset hs)
            · rw [List.mem_singleton] at hs
              subst hs
              exact ⟨⟨(h r hm).1.1, hx1⟩, (h r hm).2⟩
        · refine wi_app h fun s hs => ?_
          rw [List.mem_singleton] at hs
          subst hs
          exact ⟨⟨hx0, hx1⟩, hy0, hy1⟩
      · exact h)
    exact ih
theorem rowsL_in (want : Int → Int → Bool) (X Y : List Int) (xs : List Int) (hx : ∀ e ∈ xs, e ∈ X) : ∀ (ys : List Int) (out : List R) (last : Nat), (∀ e ∈ ys, e ∈ Y) → Wi X Y out → Wi X Y (rowsL want xs ys out last)
  | [], out, last, _, h => h
  | [y], out, last, _, h => h
  | y :: y' :: t, out, last, hy, h => by
    have hy0 : y ∈ Y := hy y List.mem_cons_self
    have hy1 : y' ∈ Y := hy y' (List.mem_cons_of_mem _ List.mem_cons_self)
    have hy2 : ∀ e ∈ y' :: t, e ∈ Y := fun e he => hy e (List.mem_cons_of_mem _ he)
    have hr := rowL_in (fun x => want x y) y y' X Y hy0 hy1 xs [] hx (wi_nil X Y)
    have e : rowsL want xs (y :: y' :: t) out last = if rowL (fun x => want x y) y y' xs [] ≠ [] ∧ sameRow y (out.drop last) (rowL (fun x => want x y) y y' xs []) = true then rowsL want xs (y' :: t) (out.take last ++ (out.drop last).map (fun r => ⟨r.x0, r.y0, r.x1, y'⟩)) last else rowsL want xs (y' :: t) (out ++ rowL (fun x => want x y) y y' xs []) out.length := rfl
    rw [e]
    split
    · refine rowsL_in want X Y xs hx (y' :: t) _ last hy2 (wi_app (wi_take h last) fun s hs => ?_)
      obtain ⟨r, hr, rfl⟩ := List.mem_map.1 hs
      have := wi_drop h last r hr
      exact ⟨this.1, this.2.1, hy1⟩
    · exact rowsL_in want X Y xs hx (y' :: t) _ out.length hy2 (wi_app h hr)
theorem sets_wi (f : Bool → Bool → Bool) {X Y : List Int} {a b : List R} (ha : Wi X Y a) (hb : Wi X Y b) : Wi X Y (setsL f a b) :=
  rowsL_in _ X Y _ (xs_in (wi_app ha hb)) _ [] 0 (ys_in (wi_app ha hb)) (wi_nil X Y)
theorem sets_few (f : Bool → Bool → Bool) {X Y : List Int} {a b : List R} (ha : Wi X Y a) (hb : Wi X Y b) : (setsL f a b).length ≤ Y.length * X.length := by
  have h1 := rowsL_len (wantL f a b) (xsOf (a ++ b)) (ysOf (a ++ b)) [] 0 (Nat.le_refl _)
  have h2 := xs_few (wi_app ha hb)
  have h3 := ys_few (wi_app ha hb)
  simp only [List.length_nil, Nat.zero_add] at h1
  exact Nat.le_trans h1 (Nat.mul_le_mul h3 h2)
theorem reg_few {X Y : List Int} {a : List R} (h : Reg a) (hw : Wi X Y a) : a.length ≤ Y.length * X.length := by
  have e := sets_reg fits_or h (c := a) (d := []) fun x z => want_or_nil a x z
  have := sets_few orF hw (wi_nil X Y)
  rw [e] at this
  exact this

/-- in a band from the left to the right -/
def Asc (l : List R) : Prop := l.Pairwise fun r s => r.y0 = s.y0 → r.x0 < s.x0
theorem rects_asc (y0 y1 : Int) : ∀ {l : List Iv}, Sep l → Asc (rects y0 y1 l)
  | [], _ => List.Pairwise.nil
  | p :: l, h => by
    obtain ⟨h1, h2, h3⟩ := sep_cons.1 h
    refine List.pairwise_cons.2 ⟨fun s hs _ => ?_, rects_asc y0 y1 h3⟩
    obtain ⟨q, hq, rfl⟩ := List.mem_map.1 hs
    have := h2 q hq
    show p.a < q.a
    omega
theorem flats_asc : ∀ {l : List Bd}, Good l → Asc (flats l)
  | [], _ => List.Pairwise.nil
  | b :: l, h => by
    obtain ⟨h1, h2, h3⟩ := good_cons.1 h
    rw [flats_cons]
    refine List.pairwise_append.2 ⟨rects_asc _ _ h1.2.2, flats_asc h3, fun r hr s hs e => ?_⟩
    obtain ⟨p, hp, rfl⟩ := List.mem_map.1 hr
    obtain ⟨c, hc, e2⟩ := flats_y0 hs
    have h4 := (h2 c hc).1
    have h5 := h1.1
    have e3 : b.y0 = s.y0 := e
    omega
theorem asc_drop {l : List R} (h : Asc l) (k : Nat) : Asc (l.drop k) := List.Pairwise.sublist (List.drop_sublist k l) h
theorem asc_first {l : List R} (h : Asc l) : ((firstL l).map R.x0).Pairwise (· < ·) ∧ ∀ r ∈ firstL l, r ∈ l := by
  cases l with
  | nil => exact ⟨List.Pairwise.nil, fun r hr => hr⟩
  | cons r t =>
    have hs : (firstL (r :: t)).Sublist (r :: t) := (List.takeWhile_sublist _).cons_cons r
    have hp : Asc (firstL (r :: t)) := List.Pairwise.sublist hs h
    have hy : ∀ s ∈ firstL (r :: t), s.y0 = r.y0 := by
      intro s hs
      rcases List.mem_cons.1 hs with rfl | hs
      · rfl
      · have hall : (t.takeWhile (fun s => decide (s.y0 = r.y0))).all (fun s => decide (s.y0 = r.y0)) = true := List.all_takeWhile
        exact of_decide_eq_true (List.all_eq_true.1 hall s hs)
    refine ⟨?_, fun s hm => hs.subset hm⟩
    rw [List.pairwise_map]
    refine hp.imp_of_mem fun {a b} ha hb hab => hab (by rw [hy a ha, hy b hb])
theorem first_few {X Y : List Int} {l : List R} (h : Reg l) (hw : Wi X Y l) : Wd X.length l := by
  obtain ⟨bs, rfl, hg, -⟩ := h
  intro k
  obtain ⟨h1, h2⟩ := asc_first (asc_drop (flats_asc hg) k)
  have := incr_len h1 (X := X) fun e he => by
    obtain ⟨r, hr, rfl⟩ := List.mem_map.1 he
    exact (hw r (List.mem_of_mem_drop (h2 r hr))).1.1
  rw [List.length_map] at this
  exact this
theorem bands_few {X Y : List Int} {bs : List Bd} (hg : Good bs) (hw : Wi X Y (flats bs)) : bs.length ≤ Y.length := by
  have hp : ∀ {l : List Bd}, Good l → (l.map Bd.y0).Pairwise (· < ·) := by
    intro l
    induction l with
    | nil => exact fun _ => List.Pairwise.nil
    | cons b t ih =>
      intro h
      obtain ⟨h1, h2, h3⟩ := good_cons.1 h
      refine List.pairwise_cons.2 ⟨fun y hy => ?_, ih h3⟩
      obtain ⟨c, hc, rfl⟩ := List.mem_map.1 hy
      have h4 := (h2 c hc).1
      have h5 := h1.1
      omega
  have hm : ∀ {l : List Bd}, Good l → Wi X Y (flats l) → ∀ b ∈ l, b.y0 ∈ Y := by
    intro l
    induction l with
    | nil => exact fun _ _ b hb => by cases hb
    | cons c t ih =>
      intro h hw b hb
      obtain ⟨h1, h2, h3⟩ := good_cons.1 h
      rw [flats_cons] at hw
      rcases List.mem_cons.1 hb with rfl | hb
      · obtain ⟨r, m, e, hy, -⟩ := flatB_head h1
        have := hw r (List.mem_append_left _ (by rw [e]; exact List.mem_cons_self))
        rw [← hy]
        exact this.2.1
      · exact ih h3 (fun r hr => hw r (List.mem_append_right _ hr)) b hb
  have := incr_len (hp hg) (X := Y) fun e he => by
    obtain ⟨b, hb, rfl⟩ := List.mem_map.1 he
    exact hm hg hw b hb
  rw [List.length_map] at this
  exact this
theorem mu_few {A : List Bd} (y : Int) : mu A y ≤ 2 * A.length := by
  cases A with
  | nil => exact Nat.zero_le _
  | cons b t =>
    unfold mu
    dsimp only
    simp only [List.length_cons]
    split <;> omega
/-- two regions can be put together, if their edges are few -/
theorem cf_edges {f : Bool → Bool → Bool} (hf : Fits f) {X Y : List Int} {a b : List R} (ha : Reg a) (hb : Reg b) (wa : Wi X Y a) (wb : Wi X Y b) (hX : X.length ≤ 400000) (hY : Y.length ≤ 400000) : Cf f a b (setsL f a b) := by
  have fa := first_few ha wa
  have fb := first_few hb wb
  have ec := comb_sets hf ha hb
  obtain ⟨A, rfl, gA, bA⟩ := ha
  obtain ⟨B, rfl, gB, bB⟩ := hb
  have hlive : ∀ {C : List Bd}, Good C → Bounded C → live C (-9223372036854775808) := by
    intro C hC hbC
    cases C with
    | nil => trivial
    | cons b t =>
      have h1 := hbC b List.mem_cons_self
      have h2 := (good_cons.1 hC).1.1
      show _ < b.y1
      omega
  have hnone : ∀ {C : List Bd}, Bounded C → ∀ x z : Int, z < -9223372036854775808 → ¬ inBs C x z := by
    intro C hC x z hz ⟨c, hc, h1, _⟩
    have := hC c hc
    omega
  have nA := bands_few gA wa
  have nB := bands_few gB wb
  have mA := mu_few (A := A) (-9223372036854775808)
  have mB := mu_few (A := B) (-9223372036854775808)
  obtain ⟨out, e, g, h⟩ := comb_run hf (flats A) (flats B) (4 * Y.length + 1) A B (-9223372036854775808) 0 [] (by omega) gA gB bA bB (hlive gA bA) (hlive gB bB) (by omega) (fun x z _ => rfl) (fun x z _ => rfl) good_nil (fun b hb => by cases hb) (.inl ⟨rfl, rfl⟩) (fun x z => by
    refine ⟨fun hx => absurd hx (inBs_nil x z), fun ⟨hz, hw⟩ => ?_⟩
    unfold wantL at hw
    have h1 : hasL (flats A) x z = false := by
      rw [Bool.eq_false_iff]; intro hc; exact hnone bA x z hz ((has_flats A x z).1 hc)
    have h2 : hasL (flats B) x z = false := by
      rw [Bool.eq_false_iff]; intro hc; exact hnone bB x z hz ((has_flats B x z).1 hc)
    rw [h1, h2, hf] at hw
    cases hw)
  obtain ⟨m, e2, g2, h2⟩ := sets_good hf (flats A) (flats B)
  have e3 : flats out = setsL f (flats A) (flats B) := by rw [e2, good_unique g g2 fun x z => by rw [h, h2]]
  refine ⟨4 * Y.length + 1, X.length, X.length, by rw [← e3]; exact e, fa, fb, ?_⟩
  have h1 : (4 * Y.length + 1) * (2 * (X.length + X.length)) ≤ 1600001 * 1600000 := Nat.mul_le_mul (by omega) (by omega)
  omega
/-- the edges are few -/
def Ew (l : List R) : Prop := ∃ X Y, Wi X Y l ∧ X.length ≤ 400000 ∧ Y.length ≤ 400000
theorem ew_of {X Y : List Int} {l : List R} (h : Wi X Y l) (hX : X.length ≤ 400000) (hY : Y.length ≤ 400000) : Ew l := ⟨X, Y, h, hX, hY⟩
theorem ew_small {l : List R} (h : l.length ≤ 200000) : Ew l := by
  refine ⟨l.map R.x0 ++ l.map R.x1, l.map R.y0 ++ l.map R.y1, fun r hr => ?_, by simp; omega, by simp; omega⟩
  exact ⟨⟨List.mem_append_left _ (List.mem_map_of_mem hr), List.mem_append_right _ (List.mem_map_of_mem hr)⟩, List.mem_append_left _ (List.mem_map_of_mem hr), List.mem_append_right _ (List.mem_map_of_mem hr)⟩
theorem ew_take {l : List R} (h : Ew l) (k : Nat) : Ew (l.take k) := by
  obtain ⟨X, Y, h1, h2, h3⟩ := h
  exact ⟨X, Y, wi_take h1 k, h2, h3⟩
theorem ew_drop {l : List R} (h : Ew l) (k : Nat) : Ew (l.drop k) := by
  obtain ⟨X, Y, h1, h2, h3⟩ := h
  exact ⟨X, Y, wi_drop h1 k, h2, h3⟩
/-- halves that are joined -/
theorem cf_halves {l : List R} (h : Ew l) (hok : ∀ r ∈ l, Ok r) (k : Nat) : Cf orF (setsL orF (l.take k) []) (setsL orF (l.drop k) []) (setsL orF l []) := by
  obtain ⟨X, Y, h1, h2, h3⟩ := h
  have okA : ∀ x ∈ l.take k, Ok x := fun x hx => hok x (List.mem_of_mem_take hx)
  have okD : ∀ x ∈ l.drop k, Ok x := fun x hx => hok x (List.mem_of_mem_drop hx)
  have e : setsL orF (setsL orF (l.take k) []) (setsL orF (l.drop k) []) = setsL orF l [] := by
    refine sets_ext fits_or fits_or fun x z => ?_
    rw [want_or_nil]
    show orF (hasL (setsL orF (l.take k) []) x z) (hasL (setsL orF (l.drop k) []) x z) = hasL l x z
    rw [has_sets fits_or, has_sets fits_or, want_or_nil, want_or_nil]
    show (_ || _) = _
    rw [← has_append, List.take_append_drop]
  rw [← e]
  exact cf_edges fits_or (reg_sets fits_or okA (b := []) (fun x hx => by cases hx)).1 (reg_sets fits_or okD (b := []) (fun x hx => by cases hx)).1 (sets_wi _ (wi_take h1 k) (wi_nil X Y)) (sets_wi _ (wi_drop h1 k) (wi_nil X Y)) h2 h3
end Go.Proofs.YteiihgoobhlkbaaDoor.Rg.Num
