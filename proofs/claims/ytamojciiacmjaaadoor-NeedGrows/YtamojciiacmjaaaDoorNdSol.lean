/- What is needed over a filter, made from the order's end to its beginning: by looking for it (the document), and by asking for it (the program). -/
import Derived.Test.YtamojciiacmjaaaDoorNdNum
namespace Go.Proofs.YtamojciiacmjaaaDoor
open Num Go.RowKit
open Rg.Num (R empB orN nil moveR grow meet join cutN mvd mx mn cutR Ok Pr boxQ)
set_option linter.unusedVariables false
set_option linter.unusedSimpArgs false

theorem ok_needA {op : Int} {q : Nat → Int} {want : R} (hq : Pr op q) (hw : Ok want) : Ok (needA op q want) := by
  unfold needA
  split
  · exact Rg.Num.ok_nil
  · unfold needB
    split
    · exact Rg.Num.ok_moveR _ _ _
    split
    · exact Rg.Num.ok_grow _ _ _ _ _
    split
    · rename_i h
      exact Rg.Num.ok_meet hw (hq.b (Or.inr h))
    split
    · rename_i h
      split
      · exact hw
      · exact hq.b (Or.inl h)
    split
    · exact Rg.Num.ok_join hw (Rg.Num.ok_grow _ _ _ _ _)
    · exact hw

/-- what is known of a node -/
def fK (K : List R) (a : Nat) : R := K.getD a nil
theorem fK_set_eq {K : List R} {a : Nat} (h : a < K.length) (r : R) : fK (K.set a r) a = r := by unfold fK; rw [List.getD_eq_getElem?_getD, List.getElem?_set_self h]; rfl
theorem fK_set_ne {K : List R} {a b : Nat} (h : a ≠ b) (r : R) : fK (K.set a r) b = fK K b := by unfold fK; rw [List.getD_eq_getElem?_getD, List.getElem?_set_ne h, List.getD_eq_getElem?_getD]
theorem fK_get {K : List R} {a : Nat} (h : a < K.length) : K[a]? = some (fK K a) := by unfold fK; rw [List.getD_eq_getElem?_getD, List.getElem?_eq_getElem h]; rfl
theorem fK_ok {K : List R} (h : ∀ r, r ∈ K → Ok r) (a : Nat) : Ok (fK K a) := by
  by_cases ha : a < K.length
  · exact h _ (List.mem_of_getElem? (fK_get ha))
  · unfold fK; rw [List.getD_eq_getElem?_getD, List.getElem?_eq_none (by omega)]; exact Rg.Num.ok_nil
theorem fK_ext {K M : List R} (hl : K.length = M.length) (h : ∀ a, a < K.length → fK K a = fK M a) : K = M := by
  apply List.ext_getElem?
  intro a
  by_cases ha : a < K.length
  · rw [fK_get ha, fK_get (by omega), h a ha]
  · rw [List.getElem?_eq_none (by omega), List.getElem?_eq_none (by omega)]
theorem ok_setR {K : List R} (h : ∀ r, r ∈ K → Ok r) {v : R} (hv : Ok v) (a : Nat) : ∀ r, r ∈ K.set a v → Ok r := fun r hr => by
  rcases List.mem_or_eq_of_mem_set hr with hr | rfl
  · exact h r hr
  · exact hv

/-! By looking for it -/
def atN (l : List Int) (u : R) (x : Int) (r : R) : R := l.foldl (fun r y => if y = x then join r u else r) r
theorem atN_step {l : List Int} {k : Nat} {y : Int} (h : l[k]? = some y) (u : R) (x : Int) (r : R) : atN (l.take (k + 1)) u x r = if y = x then join (atN (l.take k) u x r) u else atN (l.take k) u x r := by
  obtain ⟨hk, rfl⟩ := List.getElem?_eq_some_iff.1 h
  unfold atN
  rw [List.take_succ_eq_append_getElem hk, List.foldl_append]
  rfl
theorem hull_atN {P : R → Prop} (u : R) (x : Int) : ∀ (l : List Int) (P : R → Prop) (r : R), Hull P r → Hull (fun s => P s ∨ (x ∈ l ∧ s = u)) (atN l u x r)
  | [], P, r, h => hull_iff (fun s => by simp) h
  | y :: l, P, r, h => by
    show Hull _ (atN l u x (if y = x then join r u else r))
    by_cases e : y = x
    · rw [if_pos e]
      refine hull_iff (fun s => ?_) (hull_atN (P := P) u x l _ _ (hull_add h u))
      subst e
      constructor
      · rintro ((h1 | h1) | ⟨h1, h2⟩)
        · exact Or.inl h1
        · exact Or.inr ⟨List.mem_cons_self, h1⟩
        · exact Or.inr ⟨List.mem_cons_of_mem _ h1, h2⟩
      · rintro (h1 | ⟨-, h2⟩)
        · exact Or.inl (Or.inl h1)
        · exact Or.inl (Or.inr h2)
    · rw [if_neg e]
      refine hull_iff (fun s => ?_) (hull_atN (P := P) u x l _ _ h)
      constructor
      · rintro (h1 | ⟨h1, h2⟩)
        · exact Or.inl h1
        · exact Or.inr ⟨List.mem_cons_of_mem _ h1, h2⟩
      · rintro (h1 | ⟨h1, h2⟩)
        · exact Or.inl h1
        · rcases List.mem_cons.1 h1 with h1 | h1
          · exact absurd h1.symm e
          · exact Or.inr ⟨h1, h2⟩
def needV (v : Nv) (want : R) : R := needA v.op (nth v.p) want
def atR (L : List Nv) (F : Nat → R) (x : Int) (r : R) : Nat → R
  | 0 => r
  | i + 1 => match L[i]? with
    | some v => atN v.l (needV v (F i)) x (atR L F x r i)
    | none => atR L F x r i
theorem atR_step {L : List Nv} {i : Nat} {v : Nv} (h : L[i]? = some v) (F : Nat → R) (x : Int) (r : R) : atR L F x r (i + 1) = atN v.l (needV v (F i)) x (atR L F x r i) := by
  show (match L[i]? with | some v => _ | none => _) = _
  rw [h]
theorem hull_atR {L : List Nv} {F : Nat → R} {x : Int} {r : R} {P : R → Prop} (h : Hull P r) : ∀ i, i ≤ L.length → Hull (fun s => P s ∨ ∃ j v, j < i ∧ L[j]? = some v ∧ x ∈ v.l ∧ s = needV v (F j)) (atR L F x r i)
  | 0, _ => hull_iff (fun s => ⟨Or.inl, fun hs => by
      rcases hs with hs | ⟨j, v, hj, -⟩
      · exact hs
      · omega⟩) h
  | i + 1, hi => by
    obtain ⟨v, hv⟩ : ∃ v, L[i]? = some v := ⟨_, List.getElem?_eq_getElem (by omega)⟩
    rw [atR_step hv]
    refine hull_iff (fun s => ?_) (hull_atN (P := P) (needV v (F i)) x v.l _ _ (hull_atR h i (by omega)))
    constructor
    · rintro ((h1 | ⟨j, v', h1, h2, h3, h4⟩) | ⟨h1, h2⟩)
      · exact Or.inl h1
      · exact Or.inr ⟨j, v', by omega, h2, h3, h4⟩
      · exact Or.inr ⟨i, v, by omega, hv, h1, h2⟩
    · rintro (h1 | ⟨j, v', h1, h2, h3, h4⟩)
      · exact Or.inl (Or.inl h1)
      · by_cases e : j = i
        · subst e
          rw [hv] at h2
          obtain rfl := Option.some.inj h2
          exact Or.inr ⟨h3, h4⟩
        · exact Or.inl (Or.inr ⟨j, v', by omega, h2, h3, h4⟩)
def atS (out x : Int) (want : R) : R := if x = out then join want nil else nil
theorem join_nil (want : R) : join want nil = join nil want := by
  unfold join
  rcases h : empB want with _ | _
  · rw [if_neg (by simp), if_pos (by rfl), if_pos (by rfl), Rg.Num.orN_no h]
  · rw [if_pos rfl, if_pos (by rfl), Rg.Num.orN_yes h]; rfl
theorem hull_atS (out x : Int) (want : R) : Hull (fun s => x = out ∧ s = want) (atS out x want) := by
  unfold atS
  split
  · rename_i h
    rw [join_nil]
    exact hull_iff (fun s => ⟨fun hs => ⟨h, hs.resolve_left fun x => x⟩, fun hs => Or.inr hs.2⟩) (hull_add hull_none want)
  · rename_i h
    exact hull_iff (fun s => ⟨fun hs => hs.elim, fun hs => h hs.1⟩) hull_none
def atG (L : List Nv) (out : Int) (want : R) (F : Nat → R) (x : Int) : R := atR L F x (atS out x want) L.length
theorem hull_at (L : List Nv) (out : Int) (want : R) (F : Nat → R) (x : Int) : Hull (askP L out want F x) (atG L out want F x) := by
  refine hull_iff (fun s => ?_) (hull_atR (hull_atS out x want) L.length (Nat.le_refl _))
  unfold askP
  constructor
  · rintro (h1 | ⟨j, v, -, h2, h3, h4⟩)
    · exact Or.inl h1
    · exact Or.inr ⟨j, v, h2, h3, h4⟩
  · rintro (h1 | ⟨j, v, h2, h3, h4⟩)
    · exact Or.inl h1
    · exact Or.inr ⟨j, v, (List.getElem?_eq_some_iff.1 h2).1, h2, h3, h4⟩
theorem ok_atN {u : R} (hu : Ok u) (x : Int) : ∀ (l : List Int) (r : R), Ok r → Ok (atN l u x r)
  | [], r, h => h
  | y :: l, r, h => by
    show Ok (atN l u x (if y = x then join r u else r))
    refine ok_atN hu x l _ ?_
    split
    · exact Rg.Num.ok_join h hu
    · exact h
theorem ok_atR {L : List Nv} {F : Nat → R} {x : Int} {r : R} (hp : ∀ v, v ∈ L → Pr v.op (nth v.p)) (hF : ∀ a, Ok (F a)) (h : Ok r) : ∀ i, Ok (atR L F x r i)
  | 0 => h
  | i + 1 => by
    show Ok (match L[i]? with | some v => _ | none => _)
    cases hv : L[i]? with
    | none => exact ok_atR hp hF h i
    | some v => exact ok_atN (ok_needA (hp v (List.mem_of_getElem? hv)) (hF i)) x v.l _ (ok_atR hp hF h i)
theorem ok_atG {L : List Nv} {out : Int} {want : R} {F : Nat → R} {x : Int} (hp : ∀ v, v ∈ L → Pr v.op (nth v.p)) (hF : ∀ a, Ok (F a)) (h : Ok want) : Ok (atG L out want F x) := by
  refine ok_atR hp hF ?_ _
  unfold atS
  split
  · exact Rg.Num.ok_join h Rg.Num.ok_nil
  · exact Rg.Num.ok_nil

/-- those that have a node as an input come behind it -/
theorem later {L : List Nv} (h : roundB (insL L) = false) {j b u : Nat} {v : Nv} (hj : (ordG (insL L))[j]? = some b) (hu : L[u]? = some v) (hm : (b : Int) ∈ v.l) : ∃ m : Nat, (ordG (insL L))[m]? = some u ∧ j < m := by
  have ho := ordG_ord (insL L)
  have hul : u < L.length := (List.getElem?_eq_some_iff.1 hu).1
  have hbl : b < L.length := by have := ho.lt b (List.mem_of_getElem? hj); rw [insL_len] at this; exact this
  obtain ⟨i, hi⟩ := List.getElem?_of_mem (round_iff.1 h u (by rw [insL_len]; exact hul))
  have hil : i < (ordG (insL L)).length := (List.getElem?_eq_some_iff.1 hi).1
  have hg : (ordG (insL L)).getD i 0 = u := by rw [List.getD_eq_getElem?_getD, hi]; rfl
  have ht := ho.ahead i hil b (by rw [insL_len]; exact hbl) (by rw [hg]; exact has_iff.2 (by rw [insL_at hu]; exact hm))
  obtain ⟨m, hmm⟩ := List.getElem?_of_mem ht
  rw [List.getElem?_take] at hmm
  split at hmm
  · rename_i hmi
    have hjm : j = m := by
      obtain ⟨g1, g2⟩ := List.getElem?_eq_some_iff.1 hj
      obtain ⟨g3, g4⟩ := List.getElem?_eq_some_iff.1 hmm
      exact (List.getElem_inj ho.nodup).1 (g2.trans g4.symm)
    exact ⟨i, hi, by omega⟩
  · cases hmm
theorem ord_inj {L : List Nv} {i j a : Nat} (hi : (ordG (insL L))[i]? = some a) (hj : (ordG (insL L))[j]? = some a) : i = j := by
  obtain ⟨g1, g2⟩ := List.getElem?_eq_some_iff.1 hi
  obtain ⟨g3, g4⟩ := List.getElem?_eq_some_iff.1 hj
  exact (List.getElem_inj (ordG_ord (insL L)).nodup).1 (g2.trans g4.symm)

/-- of all from the place i of the order on it is known -/
structure Kn2 (L : List Nv) (out : Int) (want : R) (i : Nat) (K : List R) : Prop where
  len : K.length = L.length
  ok : ∀ r, r ∈ K → Ok r
  hull : ∀ j a, i ≤ j → (ordG (insL L))[j]? = some a → Hull (askP L out want (fK K) (a : Int)) (fK K a)
theorem kn2_step {L : List Nv} {out : Int} {want : R} (hr : roundB (insL L) = false) (hp : ∀ v, v ∈ L → Pr v.op (nth v.p)) (hw : Ok want) {i a : Nat} {K : List R} (h : Kn2 L out want (i + 1) K) (ha : (ordG (insL L))[i]? = some a) : Kn2 L out want i (K.set a (atG L out want (fK K) (a : Int))) := by
  have hal : a < K.length := by
    rw [h.len]
    have := (ordG_ord (insL L)).lt a (List.mem_of_getElem? ha); rw [insL_len] at this; exact this
  refine ⟨by rw [List.length_set]; exact h.len, ok_setR h.ok (ok_atG hp (fK_ok h.ok) hw) a, fun j b hj hb => ?_⟩
  have hu : ∀ u v, L[u]? = some v → (b : Int) ∈ v.l → fK K u = fK (K.set a (atG L out want (fK K) (a : Int))) u := fun u v hv hm => by
    obtain ⟨m, hm1, hm2⟩ := later hr hb hv hm
    refine (fK_set_ne (fun e => ?_) _).symm
    subst e
    have := ord_inj ha hm1
    omega
  by_cases e : j = i
  · subst e
    rw [ha] at hb
    obtain rfl := Option.some.inj hb
    rw [fK_set_eq hal]
    exact hull_iff (ask_congr hu) (hull_at L out want (fK K) (a : Int))
  · have hne : a ≠ b := fun e2 => by
      subst e2
      exact e (ord_inj hb ha)
    rw [fK_set_ne hne]
    exact hull_iff (ask_congr hu) (h.hull j b (by omega) hb)
theorem kn2_start (L : List Nv) (out : Int) (want : R) : Kn2 L out want (ordG (insL L)).length (List.replicate L.length nil) :=
  ⟨by simp, fun r hr => by rw [List.eq_of_mem_replicate hr]; exact Rg.Num.ok_nil, fun j a hj ha => by have := (List.getElem?_eq_some_iff.1 ha).1; omega⟩
theorem kn2_end {L : List Nv} {out : Int} {want : R} (hr : roundB (insL L) = false) {K : List R} (h : Kn2 L out want 0 K) : Sol L out want (fK K) (atG L out want (fK K) (-1)) := by
  refine ⟨fun a ha => ?_, hull_at L out want (fK K) (-1)⟩
  obtain ⟨j, hj⟩ := List.getElem?_of_mem (round_iff.1 hr a (by rw [insL_len]; exact ha))
  exact h.hull j a (Nat.zero_le _) hj

/-! By asking for it -/
abbrev St2 := List R × R
def joinK (u : R) (st : St2) (x : Int) : St2 := if x = -1 then (st.1, join st.2 u) else if 0 ≤ x ∧ x < (st.1.length : Int) then (st.1.set x.toNat (join (fK st.1 x.toNat) u), st.2) else st
def stepP (L : List Nv) (st : St2) (a : Nat) : St2 := match L[a]? with
  | some v => v.l.foldl (joinK (needV v (fK st.1 a))) st
  | none => st
/-- what is asked of a place so far -/
def valK (st : St2) (x : Int) : R := if x = -1 then st.2 else fK st.1 x.toNat
def Plc (n : Nat) (x : Int) : Prop := x = -1 ∨ (0 ≤ x ∧ x < (n : Int))
theorem joinK_len (u : R) (st : St2) (x : Int) : (joinK u st x).1.length = st.1.length := by
  unfold joinK
  split
  · rfl
  · split
    · simp
    · rfl
theorem joinK_eq {u : R} {st : St2} {x : Int} (hx : Plc st.1.length x) : valK (joinK u st x) x = join (valK st x) u := by
  unfold joinK valK
  by_cases h1 : x = -1
  · rw [if_pos h1, if_pos h1, if_pos h1]
  · rcases hx with hx | hx
    · exact absurd hx h1
    · rw [if_neg h1, if_pos hx, if_neg h1, if_neg h1]
      exact fK_set_eq (by omega) _
theorem joinK_ne {u : R} {st : St2} {x y : Int} (hx : Plc st.1.length x) (hy : Plc st.1.length y) (h : x ≠ y) : valK (joinK u st x) y = valK st y := by
  unfold joinK valK
  by_cases h1 : x = -1
  · rw [if_pos h1]
    have h2 : y ≠ -1 := fun e => h (h1.trans e.symm)
    rw [if_neg h2, if_neg h2]
  · rcases hx with hx | hx
    · exact absurd hx h1
    · rw [if_neg h1, if_pos hx]
      by_cases h2 : y = -1
      · rw [if_pos h2, if_pos h2]
      · rw [if_neg h2, if_neg h2]
        rcases hy with hy | hy
        · exact absurd hy h2
        · exact fK_set_ne (by omega) _
structure Oks (st : St2) : Prop where
  k : ∀ r, r ∈ st.1 → Ok r
  s : Ok st.2
theorem ok_joinK {u : R} (hu : Ok u) {st : St2} (h : Oks st) (x : Int) : Oks (joinK u st x) := by
  unfold joinK
  split
  · exact ⟨h.k, Rg.Num.ok_join h.s hu⟩
  · split
    · exact ⟨ok_setR h.k (Rg.Num.ok_join (fK_ok h.k _) hu) _, h.s⟩
    · exact h
theorem fold_len (u : R) : ∀ (l : List Int) (st : St2), (l.foldl (joinK u) st).1.length = st.1.length
  | [], st => rfl
  | x :: l, st => (fold_len u l _).trans (joinK_len u st x)
theorem fold_ok {u : R} (hu : Ok u) : ∀ (l : List Int) (st : St2), Oks st → Oks (l.foldl (joinK u) st)
  | [], st, h => h
  | x :: l, st, h => fold_ok hu l _ (ok_joinK hu h x)
theorem fold_step {l : List Int} {k : Nat} {x : Int} (h : l[k]? = some x) (u : R) (st : St2) : (l.take (k + 1)).foldl (joinK u) st = joinK u ((l.take k).foldl (joinK u) st) x := by
  obtain ⟨hk, rfl⟩ := List.getElem?_eq_some_iff.1 h
  rw [List.take_succ_eq_append_getElem hk, List.foldl_append]
  rfl
theorem fold_hull (u : R) : ∀ (l : List Int) (st : St2) (H : Int → R → Prop), (∀ y, y ∈ l → Plc st.1.length y) → (∀ x, Plc st.1.length x → Hull (H x) (valK st x)) → ∀ x, Plc st.1.length x → Hull (fun s => H x s ∨ (x ∈ l ∧ s = u)) (valK (l.foldl (joinK u) st) x)
  | [], st, H, _, h, x, hx => hull_iff (fun s => by simp) (h x hx)
  | y :: l, st, H, hl, h, x, hx => by
    have hy := hl y List.mem_cons_self
    have e := joinK_len u st y
    have ih := fold_hull u l (joinK u st y) (fun z s => H z s ∨ (z = y ∧ s = u)) (fun z hz => by rw [e]; exact hl z (List.mem_cons_of_mem _ hz)) (fun z hz => by
      rw [e] at hz
      by_cases ez : y = z
      · subst ez
        rw [joinK_eq hy]
        exact hull_iff (fun s => ⟨fun hs => hs.imp id fun hs => ⟨rfl, hs⟩, fun hs => hs.imp id fun hs => hs.2⟩) (hull_add (h y hy) u)
      · rw [joinK_ne hy hz ez]
        exact hull_iff (fun s => ⟨Or.inl, fun hs => hs.resolve_right fun hs => ez hs.1.symm⟩) (h z hz)) x (by rw [e]; exact hx)
    refine hull_iff (fun s => ?_) ih
    constructor
    · rintro ((h1 | ⟨rfl, h2⟩) | ⟨h1, h2⟩)
      · exact Or.inl h1
      · exact Or.inr ⟨List.mem_cons_self, h2⟩
      · exact Or.inr ⟨List.mem_cons_of_mem _ h1, h2⟩
    · rintro (h1 | ⟨h1, h2⟩)
      · exact Or.inl (Or.inl h1)
      · rcases List.mem_cons.1 h1 with h1 | h1
        · exact Or.inl (Or.inr ⟨h1, h2⟩)
        · exact Or.inr ⟨h1, h2⟩
theorem fold_same (u : R) {b : Nat} : ∀ (l : List Int) (st : St2), (b : Int) ∉ l → fK (l.foldl (joinK u) st).1 b = fK st.1 b
  | [], st, _ => rfl
  | x :: l, st, h => by
    have h1 : (b : Int) ≠ x := fun e => h (by rw [e]; exact List.mem_cons_self)
    refine (fold_same u l _ (fun hm => h (List.mem_cons_of_mem _ hm))).trans ?_
    unfold joinK
    split
    · rfl
    · split
      · exact fK_set_ne (by omega) _
      · rfl
/-- what those that came have asked -/
def askA (L : List Nv) (out : Int) (want : R) (F : Nat → R) (A : List Nat) (x : Int) (s : R) : Prop := (x = out ∧ s = want) ∨ ∃ u v, u ∈ A ∧ L[u]? = some v ∧ x ∈ v.l ∧ s = needV v (F u)
structure Asks (L : List Nv) (out : Int) (want : R) (A : List Nat) (st : St2) : Prop where
  len : st.1.length = L.length
  ok : Oks st
  hull : ∀ x, Plc L.length x → Hull (askA L out want (fK st.1) A x) (valK st x)
theorem asks_step {L : List Nv} {out : Int} {want : R} (hp : ∀ v, v ∈ L → Pr v.op (nth v.p)) (hi : ∀ v, v ∈ L → ∀ x, x ∈ v.l → Plc L.length x) {A : List Nat} {a : Nat} {v : Nv} {st : St2} (h : Asks L out want A st) (hv : L[a]? = some v) (hn : ∀ b, b ∈ a :: A → (b : Int) ∉ v.l) : Asks L out want (A ++ [a]) (stepP L st a) := by
  have e : stepP L st a = v.l.foldl (joinK (needV v (fK st.1 a))) st := by unfold stepP; rw [hv]
  have hm := List.mem_of_getElem? hv
  have hu : Ok (needV v (fK st.1 a)) := ok_needA (hp v hm) (fK_ok h.ok.k a)
  rw [e]
  have hs : ∀ b, b ∈ a :: A → fK (v.l.foldl (joinK (needV v (fK st.1 a))) st).1 b = fK st.1 b := fun b hb => fold_same _ _ _ (hn b hb)
  refine ⟨(fold_len _ _ _).trans h.len, fold_ok hu _ _ h.ok, fun x hx => ?_⟩
  refine hull_iff (fun s => ?_) (fold_hull (needV v (fK st.1 a)) v.l st (askA L out want (fK st.1) A) (fun y hy => by rw [h.len]; exact hi v hm y hy) (fun y hy => by rw [h.len] at hy; exact h.hull y hy) x (by rw [h.len]; exact hx))
  unfold askA
  constructor
  · rintro ((h1 | ⟨u, v', h1, h2, h3, h4⟩) | ⟨h1, h2⟩)
    · exact Or.inl h1
    · exact Or.inr ⟨u, v', List.mem_append_left _ h1, h2, h3, by rw [hs u (List.mem_cons_of_mem _ h1)]; exact h4⟩
    · exact Or.inr ⟨a, v, List.mem_append_right _ (by simp), hv, h1, by rw [hs a List.mem_cons_self]; exact h2⟩
  · rintro (h1 | ⟨u, v', h1, h2, h3, h4⟩)
    · exact Or.inl (Or.inl h1)
    · rcases List.mem_append.1 h1 with h1 | h1
      · exact Or.inl (Or.inr ⟨u, v', h1, h2, h3, by rw [hs u (List.mem_cons_of_mem _ h1)] at h4; exact h4⟩)
      · rw [List.mem_singleton] at h1
        subst h1
        rw [hv] at h2
        obtain rfl := Option.some.inj h2
        exact Or.inr ⟨h3, by rw [hs u List.mem_cons_self] at h4; exact h4⟩
def startP (n : Nat) (out : Int) (want : R) : St2 := joinK want (List.replicate n nil, nil) out
theorem asks_start {L : List Nv} {out : Int} (ho : Plc L.length out) {want : R} (hw : Ok want) : Asks L out want [] (startP L.length out want) := by
  have hl : (List.replicate L.length nil).length = L.length := by simp
  refine ⟨(joinK_len _ _ _).trans hl, ok_joinK hw ⟨fun r hr => by rw [List.eq_of_mem_replicate hr]; exact Rg.Num.ok_nil, Rg.Num.ok_nil⟩ _, fun x hx => ?_⟩
  have hv : ∀ y, Plc L.length y → valK (List.replicate L.length nil, nil) y = nil := fun y hy => by
    unfold valK fK
    split
    · rfl
    · dsimp only
      rw [List.getD_eq_getElem?_getD, List.getElem?_replicate]
      split <;> rfl
  unfold startP
  by_cases e : out = x
  · subst e
    rw [joinK_eq (by rw [hl]; exact ho), hv _ ho]
    exact hull_iff (fun s => ⟨fun hs => Or.inl ⟨rfl, hs.resolve_left fun z => z⟩, fun hs => by
      rcases hs with hs | ⟨u, v, h1, -⟩
      · exact Or.inr hs.2
      · cases h1⟩) (hull_add hull_none want)
  · rw [joinK_ne (by rw [hl]; exact ho) (by rw [hl]; exact hx) e, hv _ hx]
    exact hull_iff (fun s => ⟨fun hs => hs.elim, fun hs => by
      rcases hs with hs | ⟨u, v, h1, -⟩
      · exact e hs.1.symm
      · cases h1⟩) hull_none
/-- .. of the order's end, so many -/
theorem asks_run {L : List Nv} {out : Int} {want : R} (hr : roundB (insL L) = false) (hp : ∀ v, v ∈ L → Pr v.op (nth v.p)) (hi : ∀ v, v ∈ L → ∀ x, x ∈ v.l → Plc L.length x) (ho : Plc L.length out) (hw : Ok want) : ∀ k, k ≤ (ordG (insL L)).length → Asks L out want ((ordG (insL L)).reverse.take k) (((ordG (insL L)).reverse.take k).foldl (stepP L) (startP L.length out want))
  | 0, _ => by simpa using asks_start ho hw
  | k + 1, hk => by
    have ih := asks_run hr hp hi ho hw k (by omega)
    have hkr : k < (ordG (insL L)).reverse.length := by rw [List.length_reverse]; omega
    have ea : (ordG (insL L))[(ordG (insL L)).length - 1 - k]? = some ((ordG (insL L)).reverse[k]'hkr) := by
      rw [List.getElem_reverse]
      exact List.getElem?_eq_getElem _
    rw [List.take_succ_eq_append_getElem hkr, List.foldl_append]
    generalize (ordG (insL L)).reverse[k]'hkr = a at *
    have hal : a < L.length := by have := (ordG_ord (insL L)).lt a (List.mem_of_getElem? ea); rw [insL_len] at this; exact this
    obtain ⟨v, hv⟩ : ∃ v, L[a]? = some v := ⟨_, List.getElem?_eq_getElem hal⟩
    refine asks_step hp hi ih hv fun b hb hm => ?_
    -- b would stand ahead of a in the order; but it came before
    have hpos : ∃ j, (ordG (insL L))[j]? = some b ∧ (ordG (insL L)).length - 1 - k ≤ j := by
      rcases List.mem_cons.1 hb with rfl | hb
      · exact ⟨_, ea, Nat.le_refl _⟩
      · obtain ⟨m, hm2⟩ := List.getElem?_of_mem hb
        rw [List.getElem?_take] at hm2
        split at hm2
        · rename_i hmk
          rw [List.getElem?_reverse (by omega)] at hm2
          exact ⟨_, hm2, by omega⟩
        · cases hm2
    obtain ⟨j, hj, hle⟩ := hpos
    obtain ⟨m, hm1, hm2⟩ := later hr hj hv hm
    have := ord_inj ea hm1
    omega
theorem asks_sol {L : List Nv} {out : Int} {want : R} (hr : roundB (insL L) = false) {st : St2} (h : Asks L out want (ordG (insL L)).reverse st) : Sol L out want (fK st.1) st.2 := by
  have hc : ∀ x s, askA L out want (fK st.1) (ordG (insL L)).reverse x s ↔ askP L out want (fK st.1) x s := fun x s => by
    unfold askA askP
    constructor
    · rintro (h1 | ⟨u, v, -, h2, h3, h4⟩)
      · exact Or.inl h1
      · exact Or.inr ⟨u, v, h2, h3, h4⟩
    · rintro (h1 | ⟨u, v, h2, h3, h4⟩)
      · exact Or.inl h1
      · exact Or.inr ⟨u, v, List.mem_reverse.2 (round_iff.1 hr u (by rw [insL_len]; exact (List.getElem?_eq_some_iff.1 h2).1)), h2, h3, h4⟩
  refine ⟨fun a ha => ?_, ?_⟩
  · have := hull_iff (hc _) (h.hull (a : Int) (Or.inr ⟨by omega, by omega⟩))
    unfold valK at this
    rw [if_neg (by omega), Int.toNat_natCast] at this
    exact this
  · have := hull_iff (hc _) (h.hull (-1) (Or.inl rfl))
    unfold valK at this
    rw [if_pos rfl] at this
    exact this
end Go.Proofs.YtamojciiacmjaaaDoor
