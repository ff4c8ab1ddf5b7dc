/- How far a change spreads: what a node makes of regions, and what a filter does, as plain functions of lists. -/
import Derived.Test.YteiihgoobhlkbaaDoorRgMono
namespace Go.Proofs.YteiihgoobhlkbaaDoor.Rg.Num
set_option linter.unusedVariables false
open Go.Proofs.YteiihgoobhlkbaaDoor.Rg (Wd Cf)

def allR : R := ⟨-4398046511104, -4398046511104, 4398046511104, 4398046511104⟩
def boxQ (q : Nat → Int) : R := ⟨q 0, q 1, q 2, q 3⟩
def oneS (r : R) : List R := setsL orF [r] []
def mvL (a : List R) (dx dy : Int) : List R := setsL orF (a.map fun r => moveR r dx dy) []
def grL (a : List R) (k l : Int) : List R := setsL orF (a.map fun r => grow r k l k l) []
def allJ (ls : List (List R)) : List R := ls.foldl (fun a b => setsL orF a b) []
/-- what a node of a kind makes of what its inputs are together -/
def spA (op : Int) (q : Nat → Int) (a : List R) : List R :=
  if op = 1 then mvL a (q 0) (q 1)
  else if op = 2 ∨ op = 3 ∨ op = 4 then grL a (q 0) (q 1)
  else if op = 5 ∨ op = 7 ∨ op = 8 ∨ op = 9 then a
  else if op = 12 then setsL andF a (oneS (boxQ q))
  else if op = 10 then (if setsL andF a (oneS (boxQ q)) = [] then [] else oneS allR)
  else if op = 11 then setsL orF a (grL (mvL a (q 0) (q 1)) (q 2) (q 3))
  else []
/-- what is asked of the parameters -/
structure Pr (op : Int) (q : Nat → Int) : Prop where
  m : op = 1 ∨ op = 11 → (-1048576 ≤ q 0 ∧ q 0 ≤ 1048576) ∧ (-1048576 ≤ q 1 ∧ q 1 ≤ 1048576)
  g : op = 2 ∨ op = 3 ∨ op = 4 → (0 ≤ q 0 ∧ q 0 ≤ 255) ∧ (0 ≤ q 1 ∧ q 1 ≤ 255)
  s : op = 11 → (0 ≤ q 2 ∧ q 2 ≤ 255) ∧ (0 ≤ q 3 ∧ q 3 ≤ 255)
  b : op = 10 ∨ op = 12 → Ok (boxQ q)
/-- a right region, with edges among these -/
structure Inv (X Y : List Int) (l : List R) : Prop where
  reg : Reg l
  ok : ∀ r ∈ l, Ok r
  wi : Wi X Y l

theorem reg_nil' : Reg [] := ⟨[], rfl, good_nil, fun b hb => by cases hb⟩
theorem inv_nil (X Y : List Int) : Inv X Y [] := ⟨reg_nil', fun r hr => (by cases hr), wi_nil X Y⟩
theorem inv_mono {X Y X' Y' : List Int} {l : List R} (h : Inv X Y l) (hx : ∀ e ∈ X, e ∈ X') (hy : ∀ e ∈ Y, e ∈ Y') : Inv X' Y' l := ⟨h.reg, h.ok, wi_mono h.wi hx hy⟩
theorem inv_sets {f : Bool → Bool → Bool} (hf : Fits f) {X Y : List Int} {a b : List R} (ha : ∀ r ∈ a, Ok r) (hb : ∀ r ∈ b, Ok r) (wa : Wi X Y a) (wb : Wi X Y b) : Inv X Y (setsL f a b) :=
  ⟨(reg_sets hf ha hb).1, (reg_sets hf ha hb).2, sets_wi f wa wb⟩
theorem inv_reg {X Y : List Int} {a : List R} (ha : ∀ r ∈ a, Ok r) (wa : Wi X Y a) : Inv X Y (setsL orF a []) := inv_sets fits_or ha (fun r hr => by cases hr) wa (wi_nil X Y)
theorem inv_all {X Y : List Int} : ∀ (ls : List (List R)) (a : List R), Inv X Y a → (∀ l ∈ ls, Inv X Y l) → Inv X Y (ls.foldl (fun a b => setsL orF a b) a)
  | [], a, ha, _ => ha
  | l :: ls, a, ha, h => inv_all ls _ (inv_sets fits_or ha.ok (h l List.mem_cons_self).ok ha.wi (h l List.mem_cons_self).wi) fun m hm => h m (List.mem_cons_of_mem _ hm)
theorem inv_allJ {X Y : List Int} {ls : List (List R)} (h : ∀ l ∈ ls, Inv X Y l) : Inv X Y (allJ ls) := inv_all ls [] (inv_nil X Y) h
theorem inv_len {X Y : List Int} {l : List R} (h : Inv X Y l) (hX : X.length ≤ 400000) (hY : Y.length ≤ 400000) : l.length ≤ 1000000000000 := by
  have h1 := reg_few h.reg h.wi
  have h2 : Y.length * X.length ≤ 400000 * 400000 := Nat.mul_le_mul hY hX
  omega

/-- the edges behind a move, and behind a growth -/
def xM (X : List Int) (d : Int) : List Int := X.map (fun e => cutN (mvd e d)) ++ [0]
def xG (X : List Int) (k : Int) : List Int := X.map (fun e => cutN (e - k)) ++ (X.map (fun e => cutN (e + k)) ++ [0])
theorem xM_len (X : List Int) (d : Int) : (xM X d).length = X.length + 1 := by unfold xM; simp
theorem xG_len (X : List Int) (k : Int) : (xG X k).length = 2 * X.length + 1 := by unfold xG; simp; omega
theorem map_ok {g : R → R} (h : ∀ r, Ok (g r)) (l : List R) : ∀ r ∈ l.map g, Ok r := fun r hr => by
  obtain ⟨s, -, rfl⟩ := List.mem_map.1 hr
  exact h s
theorem inv_move {X Y : List Int} {a : List R} (h : Inv X Y a) (dx dy : Int) : Inv (xM X dx) (xM Y dy) (mvL a dx dy) := inv_reg (map_ok (fun r => ok_moveR r dx dy) a) (wi_move h.wi dx dy)
theorem inv_grow {X Y : List Int} {a : List R} (h : Inv X Y a) (k l : Int) : Inv (xG X k) (xG Y l) (grL a k l) := inv_reg (map_ok (fun r => ok_grow r k l k l) a) (wi_grow h.wi k l k l)
theorem wi_one (r : R) : Wi [r.x0, r.x1] [r.y0, r.y1] [r] := fun s hs => by
  rw [List.mem_singleton] at hs
  subst hs
  simp
theorem ok_one {r : R} (h : Ok r) : ∀ s ∈ [r], Ok s := fun s hs => by rw [List.mem_singleton] at hs; subst hs; exact h
theorem inv_one {r : R} (h : Ok r) : Inv [r.x0, r.x1] [r.y0, r.y1] (oneS r) := inv_reg (ok_one h) (wi_one r)
theorem ok_all : Ok allR := by unfold Ok allR; decide

theorem inL' {α : Type} {a b : List α} : ∀ e ∈ a, e ∈ a ++ b := fun e he => List.mem_append_left _ he
theorem inR' {α : Type} {a b : List α} : ∀ e ∈ b, e ∈ a ++ b := fun e he => List.mem_append_right _ he

theorem inv_sp {op : Int} {q : Nat → Int} (hp : Pr op q) {X Y : List Int} {a : List R} (h : Inv X Y a) :
    ∃ X' Y', X'.length ≤ 3 * X.length + 8 ∧ Y'.length ≤ 3 * Y.length + 8 ∧ (∀ e ∈ X, e ∈ X') ∧ (∀ e ∈ Y, e ∈ Y') ∧ Inv X' Y' (spA op q a) := by
  unfold spA
  by_cases h1 : op = 1
  · rw [if_pos h1]
    exact ⟨X ++ xM X (q 0), Y ++ xM Y (q 1), by rw [List.length_append, xM_len]; omega, by rw [List.length_append, xM_len]; omega, inL', inL', inv_mono (inv_move h _ _) inR' inR'⟩
  rw [if_neg h1]
  by_cases h2 : op = 2 ∨ op = 3 ∨ op = 4
  · rw [if_pos h2]
    exact ⟨X ++ xG X (q 0), Y ++ xG Y (q 1), by rw [List.length_append, xG_len]; omega, by rw [List.length_append, xG_len]; omega, inL', inL', inv_mono (inv_grow h _ _) inR' inR'⟩
  rw [if_neg h2]
  by_cases h3 : op = 5 ∨ op = 7 ∨ op = 8 ∨ op = 9
  · rw [if_pos h3]
    exact ⟨X, Y, by omega, by omega, fun e he => he, fun e he => he, h⟩
  rw [if_neg h3]
  by_cases h4 : op = 12
  · rw [if_pos h4]
    have hb := inv_one (hp.b (Or.inr h4))
    have ha := inv_mono (X' := X ++ [(boxQ q).x0, (boxQ q).x1]) (Y' := Y ++ [(boxQ q).y0, (boxQ q).y1]) h inL' inL'
    have hb := inv_mono (X' := X ++ [(boxQ q).x0, (boxQ q).x1]) (Y' := Y ++ [(boxQ q).y0, (boxQ q).y1]) hb inR' inR'
    exact ⟨_, _, by rw [List.length_append]; simp only [List.length_cons, List.length_nil]; omega, by rw [List.length_append]; simp only [List.length_cons, List.length_nil]; omega, inL', inL', inv_sets fits_and ha.ok hb.ok ha.wi hb.wi⟩
  rw [if_neg h4]
  by_cases h5 : op = 10
  · rw [if_pos h5]
    refine ⟨X ++ [allR.x0, allR.x1], Y ++ [allR.y0, allR.y1], by rw [List.length_append]; simp only [List.length_cons, List.length_nil]; omega, by rw [List.length_append]; simp only [List.length_cons, List.length_nil]; omega, inL', inL', ?_⟩
    split
    · exact inv_nil _ _
    · exact inv_mono (inv_one ok_all) inR' inR'
  rw [if_neg h5]
  by_cases h6 : op = 11
  · rw [if_pos h6]
    have ha := inv_mono (X' := X ++ xG (xM X (q 0)) (q 2)) (Y' := Y ++ xG (xM Y (q 1)) (q 3)) h inL' inL'
    have hb := inv_mono (X' := X ++ xG (xM X (q 0)) (q 2)) (Y' := Y ++ xG (xM Y (q 1)) (q 3)) (inv_grow (inv_move h (q 0) (q 1)) (q 2) (q 3)) inR' inR'
    exact ⟨_, _, by rw [List.length_append, xG_len, xM_len]; omega, by rw [List.length_append, xG_len, xM_len]; omega, inL', inL', inv_sets fits_or ha.ok hb.ok ha.wi hb.wi⟩
  rw [if_neg h6]
  exact ⟨X, Y, by omega, by omega, fun e he => he, fun e he => he, inv_nil X Y⟩

/-- more points are made into no fewer -/
theorem sub_sp {op : Int} {q : Nat → Int} (hp : Pr op q) {X Y X' Y' : List Int} {a b : List R} (ha : Inv X Y a) (hb : Inv X' Y' b) (h : Sub a b) : Sub (spA op q a) (spA op q b) := by
  have hm : ∀ dx dy, Sub (mvL a dx dy) (mvL b dx dy) := fun dx dy => sub_or (sub_map (pt_move dx dy) ha.ok hb.ok h) (sub_nil _)
  unfold spA
  by_cases h1 : op = 1
  · rw [if_pos h1, if_pos h1]
    exact hm _ _
  rw [if_neg h1, if_neg h1]
  by_cases h2 : op = 2 ∨ op = 3 ∨ op = 4
  · rw [if_pos h2, if_pos h2]
    obtain ⟨⟨g1, -⟩, g2, -⟩ := hp.g h2
    exact sub_or (sub_map (pt_grow g1 g2 g1 g2) ha.ok hb.ok h) (sub_nil _)
  rw [if_neg h2, if_neg h2]
  by_cases h3 : op = 5 ∨ op = 7 ∨ op = 8 ∨ op = 9
  · rw [if_pos h3, if_pos h3]
    exact h
  rw [if_neg h3, if_neg h3]
  by_cases h4 : op = 12
  · rw [if_pos h4, if_pos h4]
    exact sub_and h (sub_refl _)
  rw [if_neg h4, if_neg h4]
  by_cases h5 : op = 10
  · rw [if_pos h5, if_pos h5]
    have hbx := inv_one (hp.b (Or.inl h5))
    by_cases e : setsL andF a (oneS (boxQ q)) = []
    · rw [if_pos e]
      exact sub_nil _
    · rw [if_neg e]
      obtain ⟨x, z, hx⟩ := some_pt (reg_sets fits_and ha.ok hbx.ok).1 e
      have hx' := sub_and h (sub_refl (oneS (boxQ q))) x z hx
      rw [if_neg (fun e' => by rw [e'] at hx'; cases hx')]
      exact sub_refl _
  rw [if_neg h5, if_neg h5]
  by_cases h6 : op = 11
  · rw [if_pos h6, if_pos h6]
    obtain ⟨⟨g1, -⟩, g2, -⟩ := hp.s h6
    exact sub_or h (sub_or (sub_map (pt_grow g1 g2 g1 g2) (inv_move ha (q 0) (q 1)).ok (inv_move hb (q 0) (q 1)).ok (hm _ _)) (sub_nil _))
  rw [if_neg h6, if_neg h6]
  exact sub_nil _
/-- one by one -/
def SubL : List (List R) → List (List R) → Prop
  | [], [] => True
  | l :: ls, m :: ms => Sub l m ∧ SubL ls ms
  | _, _ => False
theorem sub_allF : ∀ (ls ms : List (List R)) (a b : List R), Sub a b → SubL ls ms → Sub (ls.foldl (fun a b => setsL orF a b) a) (ms.foldl (fun a b => setsL orF a b) b)
  | [], [], a, b, h, _ => h
  | l :: ls, m :: ms, a, b, h, hs => sub_allF ls ms _ _ (sub_or h hs.1) hs.2
  | [], m :: ms, a, b, h, hs => hs.elim
  | l :: ls, [], a, b, h, hs => hs.elim
theorem sub_allJ {ls ms : List (List R)} (h : SubL ls ms) : Sub (allJ ls) (allJ ms) := sub_allF ls ms [] [] (sub_refl _) h

/-- nothing is made into nothing -/
theorem sp_nil (op : Int) (q : Nat → Int) : spA op q [] = [] := by
  have e0 : setsL orF [] [] = [] := rfl
  have ea : ∀ b : List R, setsL andF [] b = [] := fun b => by
    have hs := has_and [] b
    obtain ⟨m, e, g, h⟩ := sets_good fits_and [] b
    refine none_nil' (l := setsL andF [] b) ⟨m, e, g⟩ fun x z => ?_
    rw [has_and]; rfl
  have em : ∀ dx dy, mvL [] dx dy = [] := fun _ _ => rfl
  have eg : ∀ k l, grL [] k l = [] := fun _ _ => rfl
  unfold spA
  rw [em, eg, ea, eg, if_pos rfl]
  split
  · rfl
  · split
    · rfl
    · split
      · rfl
      · split
        · rfl
        · split
          · rfl
          · split <;> rfl
theorem allJ_nil : ∀ ls : List (List R), (∀ l ∈ ls, l = []) → allJ ls = []
  | [], _ => rfl
  | l :: ls, h => by
    obtain rfl := h l List.mem_cons_self
    exact allJ_nil ls fun m hm => h m (List.mem_cons_of_mem _ hm)
end Go.Proofs.YteiihgoobhlkbaaDoor.Rg.Num
