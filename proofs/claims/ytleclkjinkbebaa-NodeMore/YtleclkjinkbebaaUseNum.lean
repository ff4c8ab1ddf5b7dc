/- Who uses whom, how many inputs a node lacks, and what of it makes the order: plain lists. No Go in sight. -/
import Derived.Test.YtleclkjinkbebaaOrdNum
namespace Go.Proofs.Ytleclkjinkbebaa.Num

def castL (l : List Nat) : List Int := l.map fun (k : Nat) => (k : Int)
theorem castL_len (l : List Nat) : (castL l).length = l.length := by unfold castL; simp
theorem castL_app (l m : List Nat) : castL (l ++ m) = castL l ++ castL m := by unfold castL; simp
theorem castL_get {l : List Nat} {i k : Nat} (h : l[i]? = some k) : (castL l)[i]? = some (k : Int) := by unfold castL; rw [List.getElem?_map, h]; rfl
theorem castL_inj {l m : List Nat} (h : castL l = castL m) : l = m := by
  unfold castL at h
  exact (List.map_inj_right (fun a b e => by omega)).1 h

/-- those that have it as an input, rising -/
def usesG (G : List (List Int)) (i : Nat) : List Nat := (List.range G.length).filter fun k => hasB G k i
theorem mem_uses {G : List (List Int)} {i k : Nat} : k ∈ usesG G i ↔ k < G.length ∧ hasB G k i = true := by unfold usesG; simp
theorem uses_nodup (G : List (List Int)) (i : Nat) : (usesG G i).Nodup := List.Pairwise.filter _ List.nodup_range
theorem uses_len (G : List (List Int)) (i : Nat) : (usesG G i).length ≤ G.length := by
  unfold usesG
  have := List.length_filter_le (fun k => hasB G k i) (List.range G.length)
  rw [List.length_range] at this
  exact this
/-- .. as far as so many nodes, and so many of the next one's inputs, are done -/
def usesP (G : List (List Int)) (a j i : Nat) : List Nat := (List.range a).filter (fun k => hasB G k i) ++ if (i : Int) ∈ (inL G a).take j then [a] else []
theorem usesP_start (G : List (List Int)) (i : Nat) : usesP G 0 0 i = [] := by unfold usesP; simp
theorem usesP_end (G : List (List Int)) (i : Nat) : usesP G G.length 0 i = usesG G i := by unfold usesP usesG; simp
theorem usesP_next (G : List (List Int)) (a i : Nat) : usesP G a (inL G a).length i = usesP G (a + 1) 0 i := by
  unfold usesP
  rw [List.range_succ, List.filter_append]
  simp only [List.take_length, List.take_zero, List.not_mem_nil, if_false, List.append_nil]
  congr 1
  by_cases h : (i : Int) ∈ inL G a
  · rw [if_pos h]; simp [has_iff.2 h]
  · rw [if_neg h]
    have : hasB G a i = false := by
      cases hh : hasB G a i with
      | false => rfl
      | true => exact absurd (has_iff.1 hh) h
    simp [this]
theorem usesP_same {G : List (List Int)} {a j i : Nat} {x : Int} (hx : (inL G a)[j]? = some x) (h : x ≠ (i : Int)) : usesP G a (j + 1) i = usesP G a j i := by
  unfold usesP
  rw [List.take_add_one, hx]
  congr 1
  by_cases h1 : (i : Int) ∈ (inL G a).take j
  · rw [if_pos h1, if_pos (List.mem_append_left _ h1)]
  · rw [if_neg h1, if_neg]
    intro h2
    rcases List.mem_append.1 h2 with e | e
    · exact h1 e
    · simp at e; exact h e.symm
theorem usesP_last {G : List (List Int)} {a j i : Nat} (h : (i : Int) ∈ (inL G a).take j) : usesP G a (j + 1) i = usesP G a j i := by
  unfold usesP
  rw [List.take_add_one, if_pos h, if_pos (List.mem_append_left _ h)]
theorem usesP_more {G : List (List Int)} {a j i : Nat} (hx : (inL G a)[j]? = some (i : Int)) (h : ¬ ((i : Int) ∈ (inL G a).take j)) : usesP G a (j + 1) i = usesP G a j i ++ [a] := by
  unfold usesP
  rw [List.take_add_one, hx, if_neg h, if_pos (by simp)]
  simp
/-- is it the last one already? -/
def endsB (l : List Int) (n : Int) : Bool := decide (l ≠ [] ∧ nth l (l.length - 1) = n)
theorem usesP_ends {G : List (List Int)} {a j i : Nat} : endsB (castL (usesP G a j i)) (a : Int) = decide ((i : Int) ∈ (inL G a).take j) := by
  unfold endsB
  by_cases h : (i : Int) ∈ (inL G a).take j
  · rw [decide_eq_true h, decide_eq_true_eq]
    unfold usesP
    rw [if_pos h, castL_app]
    refine ⟨by simp [castL], ?_⟩
    unfold nth
    simp [castL]
  · rw [decide_eq_false h, decide_eq_false_iff_not]
    unfold usesP
    rw [if_neg h, List.append_nil]
    rintro ⟨h1, h2⟩
    have hl : 0 < (castL ((List.range a).filter fun k => hasB G k i)).length := List.length_pos_iff.2 h1
    have hm := nth_mem (l := castL ((List.range a).filter fun k => hasB G k i)) (i := (castL ((List.range a).filter fun k => hasB G k i)).length - 1) (by omega)
    rw [h2] at hm
    unfold castL at hm
    obtain ⟨k, hk, e⟩ := List.mem_map.1 hm
    simp at hk
    omega
theorem usesP_len (G : List (List Int)) (a j i : Nat) : (usesP G a j i).length ≤ a + 1 := by
  unfold usesP
  rw [List.length_append]
  have := List.length_filter_le (fun k => hasB G k i) (List.range a)
  rw [List.length_range] at this
  split <;> simp <;> omega

/-- how often a number stands in the first lists, and the beginning of the next -/
def lackP (U : List (List Nat)) (i j k : Nat) : Nat := ((U.take i).flatten ++ (U.getD i []).take j).count k
theorem lackP_start (U : List (List Nat)) (k : Nat) : lackP U 0 0 k = 0 := by unfold lackP; simp
theorem lackP_next {U : List (List Nat)} {i : Nat} (k : Nat) (hi : i < U.length) : lackP U i (U.getD i []).length k = lackP U (i + 1) 0 k := by
  unfold lackP
  rw [List.take_length, List.take_succ_eq_append_getElem hi, List.flatten_append]
  simp [hi]
theorem lackP_step {U : List (List Nat)} {i j u : Nat} (k : Nat) (h : (U.getD i [])[j]? = some u) : lackP U i (j + 1) k = lackP U i j k + if u = k then 1 else 0 := by
  unfold lackP
  rw [List.take_add_one, h, List.count_append, List.count_append, List.count_append]
  by_cases e : u = k
  · subst e; simp; omega
  · simp [e]
theorem lackP_end (U : List (List Nat)) (k : Nat) : lackP U U.length 0 k = U.flatten.count k := by unfold lackP; simp

/-- how many inputs a node lacks -/
def lackN (G : List (List Int)) (L : List Nat) (k : Nat) : Nat := (List.range G.length).countP fun i => hasB G k i && !L.contains i
theorem count_filter (p : Nat → Bool) (k : Nat) : ∀ n, ((List.range n).filter p).count k = if k < n ∧ p k = true then 1 else 0
  | 0 => by simp
  | n + 1 => by
    rw [List.range_succ, List.filter_append, List.count_append, count_filter p k n]
    by_cases e : n = k
    · subst e
      by_cases h : p n = true
      · simp [h]
      · simp [h]
    · have h0 : (List.filter p [n]).count k = 0 := by
        rw [List.count_eq_zero]
        intro hm
        have := (List.mem_filter.1 hm).1
        simp at this
        omega
      rw [h0]
      by_cases h : k < n
      · simp [h, show k < n + 1 by omega]
      · simp [h, show ¬ (k < n + 1) by omega]
theorem count_uses {G : List (List Int)} {k : Nat} (hk : k < G.length) : ∀ n, (((List.range n).map (usesG G)).flatten).count k = (List.range n).countP fun i => hasB G k i
  | 0 => by simp
  | n + 1 => by
    rw [List.range_succ, List.map_append, List.flatten_append, List.count_append, List.countP_append, count_uses hk n]
    congr 1
    rw [List.map_singleton, List.flatten_cons, List.flatten_nil, List.append_nil]
    unfold usesG
    rw [count_filter]
    by_cases h : hasB G k n = true
    · rw [if_pos ⟨hk, h⟩]; simp [h]
    · rw [if_neg (fun hc => h hc.2)]; simp [h]
def usesL (G : List (List Int)) : List (List Nat) := (List.range G.length).map (usesG G)
theorem usesL_len (G : List (List Int)) : (usesL G).length = G.length := by unfold usesL; simp
theorem usesL_get {G : List (List Int)} {i : Nat} (h : i < G.length) : (usesL G)[i]? = some (usesG G i) := by unfold usesL; rw [List.getElem?_map, List.getElem?_range h]; rfl
theorem lack_start {G : List (List Int)} {k : Nat} (hk : k < G.length) : lackP (usesL G) (usesL G).length 0 k = lackN G [] k := by
  rw [lackP_end]
  unfold usesL lackN
  rw [count_uses hk]
  simp
theorem lack_ready {G : List (List Int)} {L : List Nat} {k : Nat} : readyB G L k = true ↔ k ∉ L ∧ lackN G L k = 0 := by
  rw [ready_iff]
  refine and_congr Iff.rfl ?_
  unfold lackN
  rw [List.countP_eq_zero]
  refine ⟨fun h i hi => ?_, fun h i hi hh => ?_⟩
  · have hi' := List.mem_range.1 hi
    intro hc
    simp at hc
    exact hc.2 (h i hi' hc.1)
  · have := h i (List.mem_range.2 hi)
    simp [hh] at this
    exact this
theorem cnt_split (p : Nat → Bool) (a : Nat) : ∀ n, a < n → (List.range n).countP p = (List.range n).countP (fun i => p i && i != a) + if p a = true then 1 else 0
  | 0, h => by omega
  | n + 1, h => by
    rw [List.range_succ, List.countP_append, List.countP_append]
    by_cases e : a = n
    · subst e
      have : (List.range a).countP p = (List.range a).countP (fun i => p i && i != a) := by
        apply List.countP_congr
        intro i hi
        have := List.mem_range.1 hi
        have h2 : (i != a) = true := by simp; omega
        rw [h2, Bool.and_true]
      rw [this]
      by_cases hp : p a = true
      · simp [hp]
      · simp [hp]
    · have ih := cnt_split p a n (by omega)
      have h2 : (n != a) = true := by simp; omega
      rw [ih]
      simp only [List.countP_singleton, h2, Bool.and_true]
      omega
theorem lack_snoc {G : List (List Int)} {L : List Nat} {a : Nat} (k : Nat) (ha : a < G.length) (hn : a ∉ L) : lackN G L k = lackN G (L ++ [a]) k + if hasB G k a = true then 1 else 0 := by
  unfold lackN
  rw [cnt_split _ a _ ha]
  congr 1
  · apply List.countP_congr
    intro i hi
    simp
    constructor
    · rintro ⟨⟨h1, h2⟩, h3⟩; exact ⟨h1, h2, h3⟩
    · rintro ⟨h1, h2, h3⟩; exact ⟨⟨h1, h2⟩, h3⟩
  · simp [hn]

/-- a bag of just these places, each once -/
def Bag (l : List Int) (S : Nat → Prop) : Prop := l.Nodup ∧ ∀ x, x ∈ l ↔ ∃ k : Nat, x = (k : Int) ∧ S k
theorem bag_nil : Bag [] fun _ => False := ⟨List.nodup_nil, fun x => by simp⟩
theorem bag_iff {l : List Int} {S T : Nat → Prop} (h : Bag l S) (e : ∀ k, S k ↔ T k) : Bag l T := ⟨h.1, fun x => (h.2 x).trans ⟨fun ⟨k, h1, h2⟩ => ⟨k, h1, (e k).1 h2⟩, fun ⟨k, h1, h2⟩ => ⟨k, h1, (e k).2 h2⟩⟩⟩
theorem bag_push {l : List Int} {S : Nat → Prop} (h : Bag l S) {u : Nat} (hu : ¬ S u) : Bag (l ++ [(u : Int)]) fun k => S k ∨ k = u := by
  refine ⟨?_, fun x => ?_⟩
  · rw [List.nodup_append]
    refine ⟨h.1, by simp, fun a ha b hb => ?_⟩
    simp at hb
    subst hb
    intro e
    subst e
    obtain ⟨k, h1, h2⟩ := (h.2 _).1 ha
    have : k = u := by omega
    exact hu (this ▸ h2)
  · rw [List.mem_append, h.2 x]
    constructor
    · rintro (⟨k, h1, h2⟩ | h1)
      · exact ⟨k, h1, Or.inl h2⟩
      · simp at h1; exact ⟨u, h1, Or.inr rfl⟩
    · rintro ⟨k, h1, h2 | h2⟩
      · exact Or.inl ⟨k, h1, h2⟩
      · subst h2; exact Or.inr (by simp [h1])
theorem bag_pop {l l' : List Int} {S : Nat → Prop} {m : Int} (h : Bag l S) (hp : (m :: l').Perm l) (hm : ∀ x, x ∈ l → m ≤ x) : ∃ a : Nat, m = (a : Int) ∧ S a ∧ (∀ k, S k → a ≤ k) ∧ Bag l' fun k => S k ∧ k ≠ a := by
  have hml : m ∈ l := hp.mem_iff.1 (by simp)
  obtain ⟨a, rfl, ha⟩ := (h.2 m).1 hml
  have hnd : ((a : Int) :: l').Nodup := hp.nodup_iff.2 h.1
  rw [List.nodup_cons] at hnd
  refine ⟨a, rfl, ha, fun k hk => ?_, hnd.2, fun x => ?_⟩
  · have := hm k ((h.2 _).2 ⟨k, rfl, hk⟩)
    omega
  · constructor
    · intro hx
      obtain ⟨k, h1, h2⟩ := (h.2 x).1 (hp.mem_iff.1 (List.mem_cons_of_mem _ hx))
      refine ⟨k, h1, h2, fun e => ?_⟩
      subst e; subst h1
      exact hnd.1 hx
    · rintro ⟨k, h1, h2, h3⟩
      have := hp.mem_iff.2 ((h.2 x).2 ⟨k, h1, h2⟩)
      rcases List.mem_cons.1 this with e | e
      · omega
      · exact e
theorem bag_empty {S : Nat → Prop} (h : Bag [] S) (k : Nat) : ¬ S k := fun hk => by have := (h.2 k).2 ⟨k, rfl, hk⟩; cases this

/-- ahead of the next one: what is in the order, what each lacks, and which may come -/
structure Ka (G : List (List Int)) (L : List Nat) (K H : List Int) : Prop where
  st : St G L
  len : K.length = G.length
  lack : ∀ k, k < G.length → nth K k = (lackN G L k : Int)
  bag : Bag H fun k => k < G.length ∧ k ∉ L ∧ nth K k = 0
/-- .. with so many of the users of the one that has come done -/
structure Kb (G : List (List Int)) (L : List Nat) (a j : Nat) (K H : List Int) : Prop where
  st : St G L
  next : nextG G L = some a
  len : K.length = G.length
  lack : ∀ k, k < G.length → nth K k = (lackN G L k : Int) - if k ∈ (usesG G a).take j then 1 else 0
  bag : Bag H fun k => k < G.length ∧ k ∉ L ++ [a] ∧ nth K k = 0
theorem ka_none {G : List (List Int)} {L : List Nat} {K : List Int} (h : Ka G L K []) : L = ordG G := by
  refine st_end h.st (next_none.2 fun i hi => ?_)
  cases hr : readyB G L i with
  | false => rfl
  | true =>
    obtain ⟨h1, h2⟩ := lack_ready.1 hr
    exact absurd ⟨hi, h1, by rw [h.lack i hi, h2]; rfl⟩ (bag_empty h.bag i)
theorem ka_pop {G : List (List Int)} {L : List Nat} {K H H' : List Int} {m : Int} (h : Ka G L K H) (hp : (m :: H').Perm H) (hm : ∀ x, x ∈ H → m ≤ x) : ∃ a : Nat, m = (a : Int) ∧ a < G.length ∧ L.length < G.length ∧ Kb G L a 0 K H' := by
  obtain ⟨a, e, ⟨h1, h2, h3⟩, h4, h5⟩ := bag_pop h.bag hp hm
  have h3' : lackN G L a = 0 := by have := h.lack a h1; rw [h3] at this; omega
  have hr : readyB G L a = true := lack_ready.2 ⟨h2, h3'⟩
  have hnext : nextG G L = some a := by
    refine next_some.2 ⟨h1, hr, fun j hj => ?_⟩
    cases hj' : readyB G L j with
    | false => rfl
    | true =>
      obtain ⟨g1, g2⟩ := lack_ready.1 hj'
      have := h4 j ⟨by omega, g1, by rw [h.lack j (by omega), g2]; rfl⟩
      omega
  refine ⟨a, e, h1, ord_room h.st.1 h1 hr, h.st, hnext, h.len, fun k hk => by rw [h.lack k hk]; simp, bag_iff h5 fun k => ?_⟩
  rw [List.mem_append, List.mem_singleton]
  constructor
  · rintro ⟨⟨g1, g2, g3⟩, g4⟩; exact ⟨g1, fun hc => by rcases hc with hc | hc; exact g2 hc; exact g4 hc, g3⟩
  · rintro ⟨g1, g2, g3⟩; exact ⟨⟨g1, fun hc => g2 (Or.inl hc), g3⟩, fun hc => g2 (Or.inr hc)⟩
theorem kb_user {G : List (List Int)} {L : List Nat} {a j u : Nat} {K H : List Int} (h : Kb G L a j K H) (hu : (usesG G a)[j]? = some u) : u < G.length ∧ 1 ≤ nth K u ∧ nth K u ≤ (G.length : Int) ∧ u ∉ L ++ [a] ∧ u ∉ (usesG G a).take j := by
  obtain ⟨hj, e⟩ := List.getElem?_eq_some_iff.1 hu
  obtain ⟨h1, h2⟩ := mem_uses.1 (e ▸ List.getElem_mem hj)
  obtain ⟨a1, a2, -⟩ := next_some.1 h.next
  obtain ⟨b1, b2⟩ := ready_iff.1 a2
  have hnt : u ∉ (usesG G a).take j := by
    intro hm
    obtain ⟨q, hq, e2⟩ := List.getElem_of_mem hm
    rw [List.length_take] at hq
    rw [List.getElem_take] at e2
    have := (List.getElem_inj (uses_nodup G a)).1 (e2.trans e.symm)
    omega
  have hs := lack_snoc (G := G) (L := L) u a1 b1
  rw [if_pos h2] at hs
  have hl : lackN G L u ≤ G.length := by
    unfold lackN
    have := List.countP_le_length (p := fun i => hasB G u i && !L.contains i) (l := List.range G.length)
    rw [List.length_range] at this
    exact this
  refine ⟨h1, ?_, ?_, fun hm => ?_, hnt⟩
  · rw [h.lack u h1, if_neg hnt]; omega
  · rw [h.lack u h1, if_neg hnt]; omega
  · rcases List.mem_append.1 hm with hm | hm
    · exact b1 (h.st.1.ins u hm a a1 h2)
    · simp at hm; subst hm; exact b1 (b2 u a1 h2)
theorem kb_less {G : List (List Int)} {L : List Nat} {a j u : Nat} {K H : List Int} (h : Kb G L a j K H) (hu : (usesG G a)[j]? = some u) (k : Nat) (hk : k < G.length) :
    nth (K.set u (nth K u - 1)) k = (lackN G L k : Int) - if k ∈ (usesG G a).take (j + 1) then 1 else 0 := by
  obtain ⟨h1, h2, -, h3, h4⟩ := kb_user h hu
  rw [List.take_add_one, hu]
  by_cases e : k = u
  · subst e
    rw [nth_set_eq (by rw [h.len]; exact h1), h.lack k h1, if_neg h4, if_pos (by simp)]
    omega
  · rw [nth_set_ne (Ne.symm e), h.lack k hk]
    congr 1
    by_cases hm : k ∈ (usesG G a).take j
    · rw [if_pos hm, if_pos (List.mem_append_left _ hm)]
    · rw [if_neg hm, if_neg]
      intro hc
      rcases List.mem_append.1 hc with hc | hc
      · exact hm hc
      · simp at hc; exact e hc
theorem kb_step {G : List (List Int)} {L : List Nat} {a j u : Nat} {K H : List Int} (h : Kb G L a j K H) (hu : (usesG G a)[j]? = some u) (hz : nth K u - 1 ≠ 0) : Kb G L a (j + 1) (K.set u (nth K u - 1)) H := by
  obtain ⟨h1, h2, -, h3, h4⟩ := kb_user h hu
  refine ⟨h.st, h.next, by simpa using h.len, kb_less h hu, bag_iff h.bag fun k => ?_⟩
  by_cases e : k = u
  · subst e
    rw [nth_set_eq (by rw [h.len]; exact h1)]
    constructor
    · rintro ⟨-, -, g⟩; omega
    · rintro ⟨-, -, g⟩; exact absurd g hz
  · rw [nth_set_ne (Ne.symm e)]
theorem kb_push {G : List (List Int)} {L : List Nat} {a j u : Nat} {K H : List Int} (h : Kb G L a j K H) (hu : (usesG G a)[j]? = some u) (hz : nth K u - 1 = 0) : Kb G L a (j + 1) (K.set u (nth K u - 1)) (H ++ [(u : Int)]) := by
  obtain ⟨h1, h2, -, h3, h4⟩ := kb_user h hu
  refine ⟨h.st, h.next, by simpa using h.len, kb_less h hu, bag_iff (bag_push h.bag (u := u) (fun hc => by have := hc.2.2; omega)) fun k => ?_⟩
  by_cases e : k = u
  · subst e
    rw [nth_set_eq (by rw [h.len]; exact h1)]
    exact ⟨fun _ => ⟨h1, h3, hz⟩, fun _ => Or.inr rfl⟩
  · rw [nth_set_ne (Ne.symm e)]
    exact ⟨fun hc => by rcases hc with hc | hc; exact hc; exact absurd hc e, fun hc => Or.inl hc⟩
theorem kb_end {G : List (List Int)} {L : List Nat} {a : Nat} {K H : List Int} (h : Kb G L a (usesG G a).length K H) : Ka G (L ++ [a]) K H := by
  obtain ⟨a1, a2, -⟩ := next_some.1 h.next
  obtain ⟨b1, b2⟩ := ready_iff.1 a2
  refine ⟨st_step h.st h.next, h.len, fun k hk => ?_, h.bag⟩
  rw [h.lack k hk, List.take_length, lack_snoc k a1 b1]
  by_cases hh : hasB G k a = true
  · rw [if_pos hh, if_pos (mem_uses.2 ⟨hk, hh⟩)]; omega
  · rw [if_neg hh, if_neg (fun hc => hh (mem_uses.1 hc).2)]; omega
/-- .. of the first so many places -/
structure K0 (G : List (List Int)) (a : Nat) (K H : List Int) : Prop where
  len : K.length = G.length
  lack : ∀ k, k < G.length → nth K k = (lackN G [] k : Int)
  bag : Bag H fun k => k < a ∧ nth K k = 0
theorem k0_start {G : List (List Int)} {K : List Int} (h1 : K.length = G.length) (h2 : ∀ k, k < G.length → nth K k = (lackN G [] k : Int)) : K0 G 0 K [] := ⟨h1, h2, bag_iff bag_nil fun _ => ⟨fun h => h.elim, fun h => (Nat.not_lt_zero _ h.1).elim⟩⟩
theorem k0_push {G : List (List Int)} {a : Nat} {K H : List Int} (h : K0 G a K H) (hz : nth K a = 0) : K0 G (a + 1) K (H ++ [(a : Int)]) :=
  ⟨h.len, h.lack, bag_iff (bag_push h.bag (u := a) (by omega)) fun k => by
    constructor
    · rintro (⟨h1, h2⟩ | h1)
      · exact ⟨by omega, h2⟩
      · subst h1; exact ⟨by omega, hz⟩
    · rintro ⟨h1, h2⟩
      by_cases e : k = a
      · exact Or.inr e
      · exact Or.inl ⟨by omega, h2⟩⟩
theorem k0_step {G : List (List Int)} {a : Nat} {K H : List Int} (h : K0 G a K H) (hz : nth K a ≠ 0) : K0 G (a + 1) K H :=
  ⟨h.len, h.lack, bag_iff h.bag fun k => by
    constructor
    · rintro ⟨h1, h2⟩; exact ⟨by omega, h2⟩
    · rintro ⟨h1, h2⟩
      by_cases e : k = a
      · subst e; exact absurd h2 hz
      · exact ⟨by omega, h2⟩⟩
theorem k0_end {G : List (List Int)} {K H : List Int} (h : K0 G G.length K H) : Ka G [] K H := ⟨st_nil G, h.len, h.lack, bag_iff h.bag fun k => by simp⟩
end Go.Proofs.Ytleclkjinkbebaa.Num
