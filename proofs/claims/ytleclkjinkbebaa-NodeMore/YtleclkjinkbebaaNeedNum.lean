/- Which nodes are needed, and whether nodes lead round, by marks: plain lists. No Go in sight. -/
import Derived.Test.YtleclkjinkbebaaUseNum
namespace Go.Proofs.Ytleclkjinkbebaa.Num

/-- is it marked? -/
def bt (D : List Bool) (i : Nat) : Bool := D.getD i false
theorem bt_get {D : List Bool} {i : Nat} (h : i < D.length) : D[i]? = some (bt D i) := by unfold bt; rw [List.getElem?_eq_getElem h]; simp [h]
theorem bt_set_eq {D : List Bool} {i : Nat} (h : i < D.length) (v : Bool) : bt (D.set i v) i = v := by unfold bt; simp [h]
theorem bt_set_ne {D : List Bool} {i j : Nat} (h : i ≠ j) (v : Bool) : bt (D.set i v) j = bt D j := by unfold bt; rw [List.getD_eq_getElem?_getD, List.getD_eq_getElem?_getD, List.getElem?_set_ne h]
theorem bt_none (n k : Nat) : bt (List.replicate n false) k = false := by
  unfold bt
  rw [List.getD_eq_getElem?_getD, List.getElem?_replicate]
  split <;> rfl
theorem bt_mono {D : List Bool} {i k : Nat} (h : bt D k = true) : bt (D.set i true) k = true := by
  by_cases e : i = k
  · subst e
    by_cases hl : i < D.length
    · exact bt_set_eq hl true
    · rw [List.set_eq_of_length_le (by omega)]; exact h
  · rw [bt_set_ne e]; exact h
theorem bt_ext {D E : List Bool} (h : D.length = E.length) (hb : ∀ k, k < D.length → bt D k = bt E k) : D = E := by
  apply List.ext_getElem? 
  intro k
  by_cases hk : k < D.length
  · rw [bt_get hk, bt_get (by omega), hb k hk]
  · rw [List.getElem?_eq_none (by omega), List.getElem?_eq_none (by omega)]

/-- it is Out, or an input of one that is -/
inductive Rch (G : List (List Int)) (out : Int) : Nat → Prop where
  | out (k : Nat) : out = (k : Int) → k < G.length → Rch G out k
  | step (i k : Nat) : Rch G out i → k < G.length → hasB G i k = true → Rch G out k
theorem rch_lt {G : List (List Int)} {out : Int} {k : Nat} (h : Rch G out k) : k < G.length := by
  cases h with
  | out _ h1 h2 => exact h2
  | step _ _ h1 h2 h3 => exact h2
/-- .. just those are marked -/
structure Nd (G : List (List Int)) (out : Int) (N : List Bool) : Prop where
  len : N.length = G.length
  iff : ∀ k, k < G.length → (bt N k = true ↔ Rch G out k)
theorem nd_uniq {G : List (List Int)} {out : Int} {N M : List Bool} (h : Nd G out N) (k : Nd G out M) : N = M := by
  refine bt_ext (h.len.trans k.len.symm) fun i hi => ?_
  rw [Bool.eq_iff_iff, h.iff i (by rw [← h.len]; exact hi), k.iff i (by rw [← h.len]; exact hi)]
theorem nd_of {G : List (List Int)} {out : Int} {N : List Bool} (hl : N.length = G.length) (h1 : ∀ k, k < G.length → bt N k = true → Rch G out k) (h2 : ∀ k : Nat, out = (k : Int) → k < G.length → bt N k = true)
    (h3 : ∀ i, i < G.length → bt N i = true → ∀ k, k < G.length → hasB G i k = true → bt N k = true) : Nd G out N := by
  refine ⟨hl, fun k hk => ⟨h1 k hk, fun h => ?_⟩⟩
  clear hk
  induction h with
  | out k e h => exact h2 k e h
  | step i k hi h hh ih => exact h3 i (rch_lt hi) ih k h hh
/-- a node is needed just if it is Out, or one that uses it is -/
theorem nd_used {G : List (List Int)} {out : Int} {N : List Bool} (h : Nd G out N) {i : Nat} (hi : i < G.length) : bt N i = true ↔ (out = (i : Int) ∨ ∃ u, u ∈ usesG G i ∧ bt N u = true) := by
  rw [h.iff i hi]
  constructor
  · intro hr
    cases hr with
    | out _ e _ => exact Or.inl e
    | step u _ hu _ hh => exact Or.inr ⟨u, mem_uses.2 ⟨rch_lt hu, hh⟩, (h.iff u (rch_lt hu)).2 hu⟩
  · rintro (e | ⟨u, hu, hb⟩)
    · exact Rch.out _ e hi
    · obtain ⟨h1, h2⟩ := mem_uses.1 hu
      exact Rch.step u i ((h.iff u h1).1 hb) hi h2

/-- how many aren't marked -/
def cntF (D : List Bool) : Nat := D.countP fun x => !x
theorem cntF_le (D : List Bool) : cntF D ≤ D.length := List.countP_le_length
theorem cntF_set : ∀ {D : List Bool} {i : Nat}, i < D.length → bt D i = false → cntF D = cntF (D.set i true) + 1
  | [], i, h, _ => by simp at h
  | x :: D, 0, h, hb => by
    have hx : x = false := hb
    subst hx
    unfold cntF
    simp
  | x :: D, i + 1, h, hb => by
    have ih := cntF_set (D := D) (i := i) (by simpa using h) hb
    unfold cntF at ih ⊢
    rw [List.set_cons_succ, List.countP_cons, List.countP_cons, ih]
    omega
theorem cntF_none (n : Nat) : cntF (List.replicate n false) = n := by unfold cntF; rw [List.countP_replicate]; simp

/-- by a list of those that wait: what holds but for the inputs of those that wait and of x -/
structure Na (G : List (List Int)) (out : Int) (x : Nat → Prop) (D : List Bool) (T : List Nat) : Prop where
  len : D.length = G.length
  sound : ∀ k, k < G.length → bt D k = true → Rch G out k
  wait : ∀ t, t ∈ T → t < G.length ∧ bt D t = true
  closed : ∀ i, i < G.length → bt D i = true → i ∉ T → ¬ x i → ∀ k, k < G.length → hasB G i k = true → bt D k = true
theorem na_start (G : List (List Int)) (out : Int) : Na G out (fun _ => False) (List.replicate G.length false) [] :=
  ⟨by simp, fun k _ h => (by rw [bt_none] at h; cases h), fun t h => (by cases h), fun i _ h => (by rw [bt_none] at h; cases h)⟩
theorem na_mark {G : List (List Int)} {out : Int} {x : Nat → Prop} {D : List Bool} {T : List Nat} (h : Na G out x D T) {k : Nat} (hk : k < G.length) (hr : Rch G out k) : Na G out x (D.set k true) (T ++ [k]) := by
  refine ⟨by simpa using h.len, fun i hi hb => ?_, fun t ht => ?_, fun i hi hb hT hx j hj hh => ?_⟩
  · by_cases e : k = i
    · subst e; exact hr
    · rw [bt_set_ne e] at hb; exact h.sound i hi hb
  · rcases List.mem_append.1 ht with ht | ht
    · exact ⟨(h.wait t ht).1, bt_mono (h.wait t ht).2⟩
    · simp at ht; subst ht; exact ⟨hk, bt_set_eq (by rw [h.len]; exact hk) true⟩
  · have hki : k ≠ i := fun e => by subst e; exact hT (by simp)
    rw [bt_set_ne hki] at hb
    exact bt_mono (h.closed i hi hb (fun hm => hT (List.mem_append_left _ hm)) hx j hj hh)
/-- the last one that waits is taken out -/
theorem na_pop {G : List (List Int)} {out : Int} {D : List Bool} {T : List Nat} {a : Nat} (h : Na G out (fun _ => False) D (T ++ [a])) : a < G.length ∧ bt D a = true ∧ Na G out (fun i => i = a) D T := by
  obtain ⟨h1, h2⟩ := h.wait a (by simp)
  refine ⟨h1, h2, h.len, h.sound, fun t ht => h.wait t (List.mem_append_left _ ht), fun i hi hb hT hx => ?_⟩
  refine h.closed i hi hb (fun hm => ?_) (fun hf => hf)
  rcases List.mem_append.1 hm with hm | hm
  · exact hT hm
  · simp at hm; exact hx hm
theorem na_done {G : List (List Int)} {out : Int} {D : List Bool} {T : List Nat} {a : Nat} (h : Na G out (fun i => i = a) D T) (hi : ∀ k, k < G.length → hasB G a k = true → bt D k = true) : Na G out (fun _ => False) D T := by
  refine ⟨h.len, h.sound, h.wait, fun i h1 h2 h3 _ k hk hh => ?_⟩
  by_cases e : i = a
  · subst e; exact hi k hk hh
  · exact h.closed i h1 h2 h3 e k hk hh
theorem na_end {G : List (List Int)} {out : Int} {D : List Bool} (h : Na G out (fun _ => False) D []) (ho : ∀ k : Nat, out = (k : Int) → k < G.length → bt D k = true) : Nd G out D :=
  nd_of h.len h.sound ho fun i hi hb => h.closed i hi hb (by simp) (fun hf => hf)

/-- round by round: all that is marked is needed -/
structure Nr (G : List (List Int)) (out : Int) (D : List Bool) : Prop where
  len : D.length = G.length
  sound : ∀ k, k < G.length → bt D k = true → Rch G out k
theorem nr_start (G : List (List Int)) (out : Int) : Nr G out (List.replicate G.length false) := ⟨by simp, fun k _ h => by rw [bt_none] at h; cases h⟩
theorem nr_set {G : List (List Int)} {out : Int} {D : List Bool} (h : Nr G out D) {k : Nat} {v : Bool} (hv : v = true → Rch G out k) : Nr G out (D.set k v) := by
  refine ⟨by simpa using h.len, fun i hi hb => ?_⟩
  by_cases e : k = i
  · subst e
    rw [bt_set_eq (by rw [h.len]; exact hi)] at hb
    exact hv hb
  · rw [bt_set_ne e] at hb; exact h.sound i hi hb
/-- all are marked, or so many at least -/
def Far (G : List (List Int)) (out : Int) (r : Nat) (D : List Bool) : Prop := (∀ k, Rch G out k → bt D k = true) ∨ cntF D + r ≤ G.length
theorem far_start (G : List (List Int)) (out : Int) : Far G out 0 (List.replicate G.length false) := Or.inr (by rw [cntF_none]; omega)
theorem cntF_mono : ∀ {D E : List Bool}, D.length = E.length → (∀ k, bt D k = true → bt E k = true) → cntF E ≤ cntF D ∧ (cntF E = cntF D → D = E)
  | [], [], _, _ => ⟨Nat.le_refl _, fun _ => rfl⟩
  | x :: D, y :: E, hl, h => by
    obtain ⟨h1, h2⟩ := cntF_mono (D := D) (E := E) (by simpa using hl) (fun k hk => h (k + 1) hk)
    have h0 : x = true → y = true := h 0
    unfold cntF at *
    rw [List.countP_cons, List.countP_cons]
    cases x <;> cases y <;> simp at h0 ⊢
    · exact ⟨h1, fun e => h2 e⟩
    · exact ⟨by omega, fun e => by omega⟩
    · exact ⟨h1, fun e => h2 e⟩
theorem far_round {G : List (List Int)} {out : Int} {r : Nat} {D E : List Bool} (h : Far G out r D) (hD : Nr G out D) (hE : Nr G out E) (hm : ∀ k, bt D k = true → bt E k = true)
    (ho : ∀ k : Nat, out = (k : Int) → k < G.length → bt E k = true) (hc : ∀ i, i < G.length → bt D i = true → ∀ k, k < G.length → hasB G i k = true → bt E k = true) : Far G out (r + 1) E := by
  rcases h with h | h
  · exact Or.inl fun k hk => hm k (h k hk)
  · obtain ⟨h1, h2⟩ := cntF_mono (hD.len.trans hE.len.symm) hm
    by_cases e : cntF E = cntF D
    · obtain rfl := h2 e
      exact Or.inl fun k hk => ((nd_of hD.len hD.sound ho hc).iff k (rch_lt hk)).2 hk
    · exact Or.inr (by omega)
theorem far_end {G : List (List Int)} {out : Int} {D : List Bool} (h : Far G out (G.length + 1) D) (hD : Nr G out D) : Nd G out D := by
  refine ⟨hD.len, fun k hk => ⟨hD.sound k hk, fun hr => ?_⟩⟩
  rcases h with h | h
  · exact h k hr
  · omega

/-- those that lead nowhere round, as far as they are struck -/
structure Rd (G : List (List Int)) (r : Nat) (D : List Bool) : Prop where
  len : D.length = G.length
  sound : ∀ k, k < G.length → bt D k = true → k ∈ ordG G
  some : ∀ j k, j < r → (ordG G)[j]? = some k → bt D k = true
/-- .. in a round, of the first i places -/
structure Re (G : List (List Int)) (r i : Nat) (D : List Bool) : Prop where
  d : Rd G r D
  more : ∀ k, k < i → (ordG G)[r]? = some k → bt D k = true
theorem rd_start (G : List (List Int)) : Rd G 0 (List.replicate G.length false) := ⟨by simp, fun k _ h => (by rw [bt_none] at h; cases h), fun j k h => (by omega)⟩
theorem re_start {G : List (List Int)} {r : Nat} {D : List Bool} (h : Rd G r D) : Re G r 0 D := ⟨h, fun k hk => by omega⟩
theorem re_end {G : List (List Int)} {r : Nat} {D : List Bool} (h : Re G r G.length D) : Rd G (r + 1) D := by
  refine ⟨h.d.len, h.d.sound, fun j k hj hk => ?_⟩
  by_cases e : j = r
  · subst e
    exact h.more k ((ordG_ord G).lt k (List.mem_of_getElem? hk)) hk
  · exact h.d.some j k (by omega) hk
theorem re_step {G : List (List Int)} {r i : Nat} {D : List Bool} {v : Bool} (h : Re G r i D) (hi : i < G.length) (hv : v = true ↔ (bt D i = true ∨ ∀ k, k < G.length → hasB G i k = true → bt D k = true)) : Re G r (i + 1) (D.set i v) := by
  have hmono : ∀ k, bt D k = true → bt (D.set i v) k = true := by
    intro k hk
    by_cases e : i = k
    · subst e
      rw [bt_set_eq (by rw [h.d.len]; exact hi)]
      exact hv.2 (Or.inl hk)
    · rw [bt_set_ne e]; exact hk
  refine ⟨⟨by simpa using h.d.len, fun k hk hb => ?_, fun j k hj hk => hmono k (h.d.some j k hj hk)⟩, fun k hk he => ?_⟩
  · by_cases e : i = k
    · subst e
      rw [bt_set_eq (by rw [h.d.len]; exact hi)] at hb
      rcases hv.1 hb with h1 | h1
      · exact h.d.sound i hi h1
      · exact ordG_closed hi fun k hk hh => h.d.sound k hk (h1 k hk hh)
    · rw [bt_set_ne e] at hb
      exact h.d.sound k hk hb
  · by_cases e : i = k
    · subst e
      rw [bt_set_eq (by rw [h.d.len]; exact hi)]
      refine hv.2 (Or.inr fun k hk hh => ?_)
      obtain ⟨hr, e⟩ := List.getElem?_eq_some_iff.1 he
      have := (ordG_ord G).ahead r hr k hk (by rw [List.getD_eq_getElem?_getD, he]; exact hh)
      obtain ⟨q, hq, rfl⟩ := List.getElem_of_mem this
      rw [List.length_take] at hq
      rw [List.getElem_take]
      exact h.d.some q _ (by omega) (List.getElem?_eq_getElem (by omega))
    · exact hmono k (h.more k (by omega) he)
theorem rd_all {G : List (List Int)} {D : List Bool} (h : Rd G G.length D) (k : Nat) (hk : k < G.length) : bt D k = true ↔ k ∈ ordG G := by
  refine ⟨h.sound k hk, fun hm => ?_⟩
  obtain ⟨j, hj, rfl⟩ := List.getElem_of_mem hm
  exact h.some j _ (by have := ord_len (ordG_ord G); omega) (List.getElem?_eq_getElem hj)
theorem rd_yes {G : List (List Int)} {D : List Bool} (h : Rd G G.length D) (ha : ∀ k, k < G.length → bt D k = true) : roundB G = false := round_iff.2 fun k hk => (rd_all h k hk).1 (ha k hk)
theorem rd_no {G : List (List Int)} {D : List Bool} (h : Rd G G.length D) {k : Nat} (hk : k < G.length) (ha : bt D k = false) : roundB G = true := by
  cases hr : roundB G with
  | true => rfl
  | false =>
    have := (rd_all h k hk).2 (round_iff.1 hr k hk)
    rw [ha] at this
    cases this
end Go.Proofs.Ytleclkjinkbebaa.Num
