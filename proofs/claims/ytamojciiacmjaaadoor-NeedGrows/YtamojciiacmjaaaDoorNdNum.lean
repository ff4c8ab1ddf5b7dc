/- What is needed of inputs: plain functions of rectangles; hulls; what is needed over a filter. -/
import Derived.Test.YtamojciiacmjaaaDoorRgPlain
import Derived.Test.YtamojciiacmjaaaDoorLawA
import Derived.Test.YtamojciiacmjaaaDoorPlainA
namespace Go.Proofs.YtamojciiacmjaaaDoor
open Num Go.RowKit
open Rg.Num (R empB orN nil moveR grow meet join cutN mvd mx mn cutR Ok)
set_option linter.unusedVariables false
set_option linter.unusedSimpArgs false

/-- does a lie in b, by the document? -/
def winB (a b : R) : Bool := empB a || (Rg.Num.hasB b a.x0 a.y0 && Rg.Num.hasB b (a.x1 - 1) (a.y1 - 1))
/-- .. plainly -/
def Ins (a b : R) : Prop := empB a = true ∨ (b.x0 ≤ a.x0 ∧ b.y0 ≤ a.y0 ∧ a.x1 ≤ b.x1 ∧ a.y1 ≤ b.y1)
theorem win_iff (a b : R) : winB a b = true ↔ Ins a b := by
  unfold winB Ins
  rcases h : empB a with _ | _
  · obtain ⟨h1, h2⟩ := Rg.Num.of_some h
    rw [Bool.false_or, Bool.and_eq_true, Rg.Num.has_iff', Rg.Num.has_iff']
    constructor
    · rintro ⟨⟨⟨h3, h4⟩, h5, h6⟩, ⟨h7, h8⟩, h9, h10⟩
      exact Or.inr ⟨by omega, by omega, by omega, by omega⟩
    · rintro (h3 | ⟨h3, h4, h5, h6⟩)
      · cases h3
      · exact ⟨⟨⟨by omega, by omega⟩, by omega, by omega⟩, ⟨by omega, by omega⟩, by omega, by omega⟩
  · simp
theorem ins_refl (a : R) : Ins a a := Or.inr ⟨Int.le_refl _, Int.le_refl _, Int.le_refl _, Int.le_refl _⟩
theorem ins_emp {a b : R} (h : Ins a b) (ha : empB a = false) : empB b = false := by
  rcases h with h | ⟨h1, h2, h3, h4⟩
  · rw [h] at ha; cases ha
  · obtain ⟨g1, g2⟩ := Rg.Num.of_some ha
    exact Rg.Num.emp_no (by omega) (by omega)
theorem ins_trans {a b c : R} (h : Ins a b) (k : Ins b c) : Ins a c := by
  rcases ha : empB a with _ | _
  · have hb := ins_emp h ha
    rcases h with h | ⟨h1, h2, h3, h4⟩
    · rw [h] at ha; cases ha
    · rcases k with k | ⟨k1, k2, k3, k4⟩
      · rw [k] at hb; cases hb
      · exact Or.inr ⟨by omega, by omega, by omega, by omega⟩
  · exact Or.inl ha
theorem ins_nil (b : R) : Ins nil b := Or.inl rfl

/-- a node's need of each input -/
def needB (op : Int) (q : Nat → Int) (want : R) : R :=
  if op = 1 then moveR want (-(q 0)) (-(q 1))
  else if op = 2 ∨ op = 3 ∨ op = 4 then grow want (q 0) (q 1) (q 0) (q 1)
  else if op = 12 then meet want (Rg.Num.boxQ q)
  else if op = 10 then (if winB want (Rg.Num.boxQ q) = true then want else Rg.Num.boxQ q)
  else if op = 11 then join want (grow (moveR want (-(q 0)) (-(q 1))) (q 2) (q 3) (q 2) (q 3))
  else want
def needA (op : Int) (q : Nat → Int) (want : R) : R := if empB want = true then nil else needB op q want
theorem need_nil (op : Int) (q : Nat → Int) {want : R} (h : empB want = true) : needA op q want = nil := by unfold needA; rw [if_pos h]
theorem need_some (op : Int) (q : Nat → Int) {want : R} (h : empB want = false) : needA op q want = needB op q want := by unfold needA; rw [if_neg (by simp [h])]

theorem ins_orN {a b : R} (h : Ins a b) : Ins (orN a) (orN b) := by
  rcases ha : empB a with _ | _
  · rw [Rg.Num.orN_no ha, Rg.Num.orN_no (ins_emp h ha)]
    exact h
  · rw [Rg.Num.orN_yes ha]
    exact ins_nil _
theorem ins_or {a b c d x y z w : Int} (h : a < c → b < d → x ≤ a ∧ y ≤ b ∧ c ≤ z ∧ d ≤ w) : Ins ⟨a, b, c, d⟩ ⟨x, y, z, w⟩ := by
  rcases he : empB ⟨a, b, c, d⟩ with _ | _
  · obtain ⟨h1, h2⟩ := Rg.Num.of_some he
    exact Or.inr (h h1 h2)
  · exact Or.inl he
theorem ins_move {a b : R} (dx dy : Int) (ha : Ok a) (hb : Ok b) (h : Ins a b) : Ins (moveR a dx dy) (moveR b dx dy) := by
  unfold moveR
  rcases hea : empB a with _ | _
  · have heb := ins_emp h hea
    rw [heb, if_neg (by simp), if_neg (by simp)]
    unfold cutR
    refine ins_orN (ins_or fun _ _ => ?_)
    rcases h with h | ⟨h1, h2, h3, h4⟩
    · rw [h] at hea; cases hea
    · obtain ⟨g1, g2⟩ := Rg.Num.of_some hea
      unfold Ok at ha hb
      have mono : ∀ x y d : Int, (-4398046511104 ≤ x ∧ x ≤ 4398046511104) → (-4398046511104 ≤ y ∧ y ≤ 4398046511104) → x ≤ y → cutN (mvd x d) ≤ cutN (mvd y d) := by
        intro x y d hx hy hxy
        unfold cutN mvd mx mn
        split <;> split <;> omega
      exact ⟨mono _ _ _ hb.1 ha.1 h1, mono _ _ _ hb.2.1 ha.2.1 h2, mono _ _ _ ha.2.2.1 hb.2.2.1 h3, mono _ _ _ ha.2.2.2 hb.2.2.2 h4⟩
  · rw [if_pos rfl]
    exact ins_nil _
theorem ins_grow {a b : R} (k l m n : Int) (h : Ins a b) : Ins (grow a k l m n) (grow b k l m n) := by
  unfold grow
  rcases hea : empB a with _ | _
  · have heb := ins_emp h hea
    rw [heb, if_neg (by simp), if_neg (by simp)]
    unfold cutR
    refine ins_orN (ins_or fun _ _ => ?_)
    rcases h with h | ⟨h1, h2, h3, h4⟩
    · rw [h] at hea; cases hea
    · unfold cutN mx mn
      omega
  · rw [if_pos rfl]
    exact ins_nil _
theorem ins_meet {a b c : R} (h : Ins a b) : Ins (meet a c) (meet b c) := by
  unfold meet
  refine ins_orN (ins_or fun h1 h2 => ?_)
  unfold mx mn at h1 h2 ⊢
  rcases h with h | ⟨h3, h4, h5, h6⟩
  · have := Rg.Num.of_emp h
    omega
  · omega
theorem join_emp {a b : R} : empB (join a b) = true ↔ empB a = true ∧ empB b = true := by
  unfold join
  rcases ha : empB a with _ | _
  · rcases hb : empB b with _ | _
    · obtain ⟨h1, h2⟩ := Rg.Num.of_some ha
      obtain ⟨h3, h4⟩ := Rg.Num.of_some hb
      rw [if_neg (by simp), if_neg (by simp)]
      have : empB ⟨mn a.x0 b.x0, mn a.y0 b.y0, mx a.x1 b.x1, mx a.y1 b.y1⟩ = false := Rg.Num.emp_no (by unfold mn mx; dsimp only; omega) (by unfold mn mx; dsimp only; omega)
      rw [this]; simp
    · rw [if_neg (by simp), if_pos rfl, ha]; simp
  · rw [if_pos rfl]
    rcases hb : empB b with _ | _
    · rw [Rg.Num.orN_no hb, hb]; simp
    · rw [Rg.Num.orN_yes hb]; simp; rfl
theorem join_l (a b : R) : Ins a (join a b) := by
  unfold join
  rcases ha : empB a with _ | _
  · rcases hb : empB b with _ | _
    · rw [if_neg (by simp), if_neg (by simp)]
      exact Or.inr ⟨by unfold mn; dsimp only; omega, by unfold mn; dsimp only; omega, by unfold mx; dsimp only; omega, by unfold mx; dsimp only; omega⟩
    · rw [if_neg (by simp), if_pos rfl]; exact ins_refl _
  · exact Or.inl ha
theorem join_r (a b : R) : Ins b (join a b) := by
  unfold join
  rcases hb : empB b with _ | _
  · rcases ha : empB a with _ | _
    · rw [if_neg (by simp), if_neg (by simp)]
      exact Or.inr ⟨by unfold mn; dsimp only; omega, by unfold mn; dsimp only; omega, by unfold mx; dsimp only; omega, by unfold mx; dsimp only; omega⟩
    · rw [if_pos rfl, Rg.Num.orN_no hb]; exact ins_refl _
  · exact Or.inl hb
theorem join_least {a b c : R} (h : Ins a c) (k : Ins b c) : Ins (join a b) c := by
  unfold join
  rcases ha : empB a with _ | _
  · rcases hb : empB b with _ | _
    · rw [if_neg (by simp), if_neg (by simp)]
      rcases h with h | ⟨h1, h2, h3, h4⟩
      · rw [h] at ha; cases ha
      · rcases k with k | ⟨k1, k2, k3, k4⟩
        · rw [k] at hb; cases hb
        · exact Or.inr ⟨by unfold mn; dsimp only; omega, by unfold mn; dsimp only; omega, by unfold mx; dsimp only; omega, by unfold mx; dsimp only; omega⟩
    · rw [if_neg (by simp), if_pos rfl]; exact h
  · rw [if_pos rfl]
    rcases hb : empB b with _ | _
    · rw [Rg.Num.orN_no hb]; exact k
    · rw [Rg.Num.orN_yes hb]; exact ins_nil _
/-- for more no less is needed -/
theorem ins_needB {op : Int} {q : Nat → Int} {a b : R} (ha : Ok a) (hb : Ok b) (h : Ins a b) : Ins (needB op q a) (needB op q b) := by
  unfold needB
  by_cases h1 : op = 1
  · rw [if_pos h1, if_pos h1]; exact ins_move _ _ ha hb h
  rw [if_neg h1, if_neg h1]
  by_cases h2 : op = 2 ∨ op = 3 ∨ op = 4
  · rw [if_pos h2, if_pos h2]; exact ins_grow _ _ _ _ h
  rw [if_neg h2, if_neg h2]
  by_cases h3 : op = 12
  · rw [if_pos h3, if_pos h3]; exact ins_meet h
  rw [if_neg h3, if_neg h3]
  by_cases h4 : op = 10
  · rw [if_pos h4, if_pos h4]
    by_cases hwb : winB b (Rg.Num.boxQ q) = true
    · have hwa : winB a (Rg.Num.boxQ q) = true := (win_iff _ _).2 (ins_trans h ((win_iff _ _).1 hwb))
      rw [if_pos hwa, if_pos hwb]; exact h
    · rw [if_neg hwb]
      by_cases hwa : winB a (Rg.Num.boxQ q) = true
      · rw [if_pos hwa]; exact (win_iff _ _).1 hwa
      · rw [if_neg hwa]; exact ins_refl _
  rw [if_neg h4, if_neg h4]
  by_cases h5 : op = 11
  · rw [if_pos h5, if_pos h5]
    exact join_least (ins_trans h (join_l _ _)) (ins_trans (ins_grow _ _ _ _ (ins_move _ _ ha hb h)) (join_r _ _))
  rw [if_neg h5, if_neg h5]
  exact h
theorem ins_need {op : Int} {q : Nat → Int} {a b : R} (ha : Ok a) (hb : Ok b) (h : Ins a b) : Ins (needA op q a) (needA op q b) := by
  rcases hea : empB a with _ | _
  · rw [need_some op q hea, need_some op q (ins_emp h hea)]
    exact ins_needB ha hb h
  · rw [need_nil op q hea]
    exact ins_nil _

/-- r is the least rectangle that has all of these -/
def Hull (P : R → Prop) (r : R) : Prop := (∀ s, P s → Ins s r) ∧ (r = nil ∨ (empB r = false ∧ ∀ c, (∀ s, P s → Ins s c) → Ins r c))
theorem hull_none : Hull (fun _ => False) nil := ⟨fun s h => h.elim, Or.inl rfl⟩
theorem hull_iff {P Q : R → Prop} (h : ∀ s, P s ↔ Q s) {r : R} (k : Hull P r) : Hull Q r := by
  have : P = Q := funext fun s => propext (h s)
  rwa [← this]
theorem hull_add {P : R → Prop} {r : R} (h : Hull P r) (s : R) : Hull (fun t => P t ∨ t = s) (join r s) := by
  refine ⟨fun t ht => ?_, ?_⟩
  · rcases ht with ht | rfl
    · exact ins_trans (h.1 t ht) (join_l _ _)
    · exact join_r _ _
  · rcases h.2 with rfl | ⟨he, hm⟩
    · have e : join nil s = orN s := rfl
      rw [e]
      rcases hs : empB s with _ | _
      · rw [Rg.Num.orN_no hs]
        exact Or.inr ⟨hs, fun c hc => hc s (Or.inr rfl)⟩
      · rw [Rg.Num.orN_yes hs]; exact Or.inl rfl
    · refine Or.inr ⟨?_, fun c hc => join_least (hm c fun t ht => hc t (Or.inl ht)) (hc s (Or.inr rfl))⟩
      rcases hj : empB (join r s) with _ | _
      · rfl
      · rw [(join_emp.1 hj).1] at he; cases he
theorem ins_anti {a b : R} (ha : empB a = false) (h : Ins a b) (k : Ins b a) : a = b := by
  have hb := ins_emp h ha
  rcases h with h | ⟨h1, h2, h3, h4⟩
  · rw [h] at ha; cases ha
  · rcases k with k | ⟨k1, k2, k3, k4⟩
    · rw [k] at hb; cases hb
    · cases a; cases b
      simp only [R.mk.injEq]
      dsimp only at *
      omega
/-- what lies in is in the hull's hull -/
theorem hull_ins {P Q : R → Prop} {r r' : R} (h : Hull P r) (k : Hull Q r') (hs : ∀ s, P s → ∃ t, Q t ∧ Ins s t) : Ins r r' := by
  rcases h.2 with rfl | ⟨he, hm⟩
  · exact ins_nil _
  · exact hm r' fun s hp => by
      obtain ⟨t, ht, hst⟩ := hs s hp
      exact ins_trans hst (k.1 t ht)
theorem hull_uniq {P : R → Prop} {r r' : R} (h : Hull P r) (k : Hull P r') : r = r' := by
  have h1 := hull_ins h k fun s hs => ⟨s, hs, ins_refl _⟩
  have h2 := hull_ins k h fun s hs => ⟨s, hs, ins_refl _⟩
  rcases h.2 with rfl | ⟨he, -⟩
  · rcases k.2 with rfl | ⟨he, -⟩
    · rfl
    · have := ins_emp h2 he
      cases this
  · exact ins_anti he h1 h2
theorem hull_nil {P : R → Prop} {r : R} (h : Hull P r) (hn : ∀ s, P s → empB s = true) : r = nil := by
  have : Hull P nil := ⟨fun s hs => Or.inl (hn s hs), Or.inl rfl⟩
  exact hull_uniq h this

/-- what is asked of a place: of Out want, and of each input what the nodes that have it need of it -/
def askP (L : List Nv) (out : Int) (want : R) (F : Nat → R) (x : Int) (s : R) : Prop := (x = out ∧ s = want) ∨ ∃ i v, L[i]? = some v ∧ x ∈ v.l ∧ s = needA v.op (nth v.p) (F i)
/-- what is needed over a filter -/
structure Sol (L : List Nv) (out : Int) (want : R) (F : Nat → R) (S : R) : Prop where
  node : ∀ a, a < L.length → Hull (askP L out want F (a : Int)) (F a)
  src : Hull (askP L out want F (-1)) S
/-- from the last one of the order to the first one -/
theorem rev_ind {L : List Nv} (h : roundB (insL L) = false) {P : Nat → Prop} (step : ∀ a, a < L.length → (∀ u v, L[u]? = some v → (a : Int) ∈ v.l → P u) → P a) : ∀ a, a < L.length → P a := by
  have ho := ordG_ord (insL L)
  have hall : ∀ a, a < L.length → a ∈ ordG (insL L) := fun a ha => round_iff.1 h a (by rw [insL_len]; exact ha)
  have main : ∀ (k j a : Nat), (ordG (insL L)).length - j ≤ k → (ordG (insL L))[j]? = some a → P a := by
    intro k
    induction k with
    | zero =>
      intro j a hk hj
      have := (List.getElem?_eq_some_iff.1 hj).1
      omega
    | succ k ih =>
      intro j a hk hj
      have hal : a < L.length := by have := ho.lt a (List.mem_of_getElem? hj); rw [insL_len] at this; exact this
      refine step a hal fun u v hu hm => ?_
      have hul : u < L.length := (List.getElem?_eq_some_iff.1 hu).1
      obtain ⟨i, hi⟩ := List.getElem?_of_mem (hall u hul)
      have hil : i < (ordG (insL L)).length := (List.getElem?_eq_some_iff.1 hi).1
      have hg : (ordG (insL L)).getD i 0 = u := by rw [List.getD_eq_getElem?_getD, hi]; rfl
      have ht := ho.ahead i hil a (by rw [insL_len]; exact hal) (by rw [hg]; exact has_iff.2 (by rw [insL_at hu]; exact hm))
      obtain ⟨m, hmm⟩ := List.getElem?_of_mem ht
      rw [List.getElem?_take] at hmm
      split at hmm
      · rename_i hmi
        have hjm : j = m := by
          obtain ⟨g1, g2⟩ := List.getElem?_eq_some_iff.1 hj
          obtain ⟨g3, g4⟩ := List.getElem?_eq_some_iff.1 hmm
          exact (List.getElem_inj ho.nodup).1 (g2.trans g4.symm)
        exact ih i u (by omega) hi
      · cases hmm
  intro a ha
  obtain ⟨j, hj⟩ := List.getElem?_of_mem (hall a ha)
  exact main _ j a (Nat.le_refl _) hj
theorem ask_congr {L : List Nv} {out : Int} {want : R} {F F' : Nat → R} {x : Int} (h : ∀ u v, L[u]? = some v → x ∈ v.l → F u = F' u) (s : R) : askP L out want F x s ↔ askP L out want F' x s := by
  unfold askP
  constructor
  · rintro (h1 | ⟨i, v, hv, hx, rfl⟩)
    · exact Or.inl h1
    · exact Or.inr ⟨i, v, hv, hx, by rw [h i v hv hx]⟩
  · rintro (h1 | ⟨i, v, hv, hx, rfl⟩)
    · exact Or.inl h1
    · exact Or.inr ⟨i, v, hv, hx, by rw [h i v hv hx]⟩
theorem sol_uniq {L : List Nv} (hr : roundB (insL L) = false) {out : Int} {want : R} {F F' : Nat → R} {S S' : R} (h : Sol L out want F S) (k : Sol L out want F' S') : (∀ a, a < L.length → F a = F' a) ∧ S = S' := by
  have hF := rev_ind hr (P := fun a => F a = F' a) fun a ha hu => hull_uniq (hull_iff (ask_congr hu) (h.node a ha)) (k.node a ha)
  refine ⟨hF, hull_uniq (hull_iff (ask_congr fun u v hu _ => hF u (List.getElem?_eq_some_iff.1 hu).1) h.src) k.src⟩
theorem sol_grow {L : List Nv} (hr : roundB (insL L) = false) {out : Int} {want want' : R} {F F' : Nat → R} {S S' : R} (hw : Ins want want') (h : Sol L out want F S) (k : Sol L out want' F' S') (hok : ∀ a, a < L.length → Ok (F a)) (hok' : ∀ a, a < L.length → Ok (F' a)) : (∀ a, a < L.length → Ins (F a) (F' a)) ∧ Ins S S' := by
  have hs : ∀ x : Int, (∀ u v, L[u]? = some v → x ∈ v.l → Ins (F u) (F' u)) → ∀ s, askP L out want F x s → ∃ t, askP L out want' F' x t ∧ Ins s t := by
    intro x hu s hs
    rcases hs with ⟨h1, rfl⟩ | ⟨i, v, hv, hx, rfl⟩
    · exact ⟨want', Or.inl ⟨h1, rfl⟩, hw⟩
    · have hl := (List.getElem?_eq_some_iff.1 hv).1
      exact ⟨_, Or.inr ⟨i, v, hv, hx, rfl⟩, ins_need (hok i hl) (hok' i hl) (hu i v hv hx)⟩
  have hF := rev_ind hr (P := fun a => Ins (F a) (F' a)) fun a ha hu => hull_ins (h.node a ha) (k.node a ha) (hs _ hu)
  exact ⟨hF, hull_ins h.src k.src (hs _ fun u v hu _ => hF u (List.getElem?_eq_some_iff.1 hu).1)⟩
/-- of nodes that aren't needed nothing is asked -/
theorem sol_none {L : List Nv} (hr : roundB (insL L) = false) {out : Int} {want : R} {F : Nat → R} {S : R} (h : Sol L out want F S) : ∀ a, a < L.length → ¬ Rch (insL L) out a → F a = nil := by
  refine rev_ind hr (P := fun a => ¬ Rch (insL L) out a → F a = nil) fun a ha hu hn => hull_nil (h.node a ha) fun s hs => ?_
  rcases hs with ⟨h1, -⟩ | ⟨i, v, hv, hx, rfl⟩
  · exact absurd (Rch.out a h1.symm (by rw [insL_len]; exact ha)) hn
  · have : F i = nil := hu i v hv hx fun hi => hn (Rch.step i a hi (by rw [insL_len]; exact ha) (has_iff.2 (by rw [insL_at hv]; exact hx)))
    rw [this, need_nil _ _ (by decide)]
    rfl
/-- as much is known as each node needs -/
theorem sol_covers {L : List Nv} {out : Int} {want : R} {F : Nat → R} {S : R} (h : Sol L out want F S) {i : Nat} {v : Nv} (hv : L[i]? = some v) {x : Int} (hx : x ∈ v.l) : (x = -1 → Ins (needA v.op (nth v.p) (F i)) S) ∧ (∀ a : Nat, x = (a : Int) → a < L.length → Ins (needA v.op (nth v.p) (F i)) (F a)) :=
  ⟨fun e => h.src.1 _ (Or.inr ⟨i, v, hv, by rw [← e]; exact hx, rfl⟩), fun a e ha => (h.node a ha).1 _ (Or.inr ⟨i, v, hv, by rw [← e]; exact hx, rfl⟩)⟩
theorem sol_nil {L : List Nv} (hr : roundB (insL L) = false) {out : Int} {want : R} (hw : empB want = true) {F : Nat → R} {S : R} (h : Sol L out want F S) : (∀ a, a < L.length → F a = nil) ∧ S = nil := by
  have hF := rev_ind hr (P := fun a => F a = nil) fun a ha hu => hull_nil (h.node a ha) fun s hs => by
    rcases hs with ⟨-, rfl⟩ | ⟨i, v, hv, hx, rfl⟩
    · exact hw
    · rw [hu i v hv hx, need_nil _ _ (by decide)]; rfl
  refine ⟨hF, hull_nil h.src fun s hs => ?_⟩
  rcases hs with ⟨-, rfl⟩ | ⟨i, v, hv, hx, rfl⟩
  · exact hw
  · rw [hF i (List.getElem?_eq_some_iff.1 hv).1, need_nil _ _ (by decide)]; rfl
end Go.Proofs.YtamojciiacmjaaaDoor
