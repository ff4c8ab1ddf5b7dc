
/- Plain numbers: what stands at a place of a list. No Go in sight. -/
namespace Go.Proofs.YtamojciiacmjaaaDoor.Num

def nth (l : List Int) (i : Nat) : Int := l.getD i 0
theorem nth_get {l : List Int} {i : Nat} (h : i < l.length) : l[i]? = some (nth l i) := by unfold nth; rw [List.getElem?_eq_getElem h]; simp [h]
theorem nth_some {l : List Int} {i : Nat} {n : Int} (h : l[i]? = some n) : nth l i = n := by unfold nth; simp [h]
end Go.Proofs.YtamojciiacmjaaaDoor.Num
/- A heap of numbers: the least one on top. No Go in sight. -/
namespace Go.Proofs.YtamojciiacmjaaaDoor.Num

/-- two places' numbers, the one for the other -/
def swapL (l : List Int) (i j : Nat) : List Int := (l.set i (nth l j)).set j (nth l i)
theorem swap_len (l : List Int) (i j : Nat) : (swapL l i j).length = l.length := by unfold swapL; simp
theorem nth_set_eq {l : List Int} {i : Nat} (h : i < l.length) (v : Int) : nth (l.set i v) i = v := by unfold nth; simp [h]
theorem nth_set_ne {l : List Int} {i j : Nat} (h : i ≠ j) (v : Int) : nth (l.set i v) j = nth l j := by unfold nth; rw [List.getD_eq_getElem?_getD, List.getD_eq_getElem?_getD, List.getElem?_set_ne h]
theorem swap_fst {l : List Int} {i j : Nat} (hi : i < l.length) (hj : j < l.length) : nth (swapL l i j) i = nth l j := by
  unfold swapL
  by_cases e : j = i
  · subst e; rw [nth_set_eq (by simpa using hj)]
  · rw [nth_set_ne e, nth_set_eq hi]
theorem swap_snd {l : List Int} {i j : Nat} (hj : j < l.length) : nth (swapL l i j) j = nth l i := by
  unfold swapL
  rw [nth_set_eq (by simpa using hj)]
theorem swap_else {l : List Int} {i j k : Nat} (hi : k ≠ i) (hj : k ≠ j) : nth (swapL l i j) k = nth l k := by
  unfold swapL
  rw [nth_set_ne (Ne.symm hj), nth_set_ne (Ne.symm hi)]
theorem nth_elem {l : List Int} {i : Nat} (h : i < l.length) : nth l i = l[i] := by unfold nth; simp [h]
theorem swap_perm {l : List Int} {i j : Nat} (hi : i < l.length) (hj : j < l.length) : (swapL l i j).Perm l := by
  unfold swapL
  rw [nth_elem hi, nth_elem hj]
  exact List.set_set_perm hi hj
theorem nth_mem {l : List Int} {i : Nat} (h : i < l.length) : nth l i ∈ l := by rw [nth_elem h]; exact List.getElem_mem h
theorem nth_take {l : List Int} {k i : Nat} (h : i < k) : nth (l.take k) i = nth l i := by unfold nth; rw [List.getD_eq_getElem?_getD, List.getD_eq_getElem?_getD, List.getElem?_take, if_pos h]
theorem nth_app {l m : List Int} {i : Nat} (h : i < l.length) : nth (l ++ m) i = nth l i := by unfold nth; rw [List.getD_eq_getElem?_getD, List.getD_eq_getElem?_getD, List.getElem?_append_left h]

/-- of the first n: each is no less than the one that it hangs on -/
def heapN (n : Nat) (l : List Int) : Prop := ∀ i, 0 < i → i < n → nth l ((i - 1) / 2) ≤ nth l i
theorem heap_least {n : Nat} {l : List Int} (h : heapN n l) : ∀ i, i < n → nth l 0 ≤ nth l i := by
  intro i
  induction i using Nat.strongRecOn with
  | _ i ih =>
    intro hi
    rcases Nat.eq_zero_or_pos i with h0 | h0
    · subst h0; exact Int.le_refl _
    · exact Int.le_trans (ih ((i - 1) / 2) (by omega) (by omega)) (h i h0 hi)

/-- all is right but at j, upward -/
def upI (n : Nat) (l : List Int) (j : Nat) : Prop := (∀ i, 0 < i → i < n → i ≠ j → nth l ((i - 1) / 2) ≤ nth l i) ∧ (∀ i, 0 < i → i < n → (i - 1) / 2 = j → 0 < j → nth l ((j - 1) / 2) ≤ nth l i)
theorem up_start {n : Nat} {l : List Int} (h : heapN n l) (hl : l.length = n) (v : Int) : upI (n + 1) (l ++ [v]) n := by
  refine ⟨fun i h0 h1 h2 => ?_, fun i h0 h1 h2 h3 => by omega⟩
  rw [nth_app (by omega), nth_app (by omega)]
  exact h i h0 (by omega)
theorem up_top {n : Nat} {l : List Int} (h : upI n l 0) : heapN n l := fun i h0 h1 => h.1 i h0 h1 (by omega)
theorem up_end {n j : Nat} {l : List Int} (h : upI n l j) (hle : nth l ((j - 1) / 2) ≤ nth l j) : heapN n l := by
  intro i h0 h1
  by_cases e : i = j
  · subst e; exact hle
  · exact h.1 i h0 h1 e
theorem up_step {n j : Nat} {l : List Int} (h : upI n l j) (hn : n ≤ l.length) (h0 : 0 < j) (h1 : j < n) (hlt : nth l j < nth l ((j - 1) / 2)) : upI n (swapL l ((j - 1) / 2) j) ((j - 1) / 2) := by
  have hp : (j - 1) / 2 < j := by omega
  generalize hq : (j - 1) / 2 = q at *
  have hqj : q ≠ j := by omega
  refine ⟨fun i i0 i1 i2 => ?_, fun i i0 i1 i2 i3 => ?_⟩
  · by_cases e : i = j
    · subst e
      rw [hq, swap_fst (by omega) (by omega), swap_snd (by omega)]
      omega
    · have hi := h.1 i i0 i1 e
      by_cases e1 : (i - 1) / 2 = q
      · rw [e1, swap_fst (by omega) (by omega), swap_else i2 e]
        rw [e1] at hi
        omega
      · by_cases e2 : (i - 1) / 2 = j
        · rw [e2, swap_snd (by omega), swap_else i2 e]
          have hb := h.2 i i0 i1 e2 h0
          rw [hq] at hb
          exact hb
        · rw [swap_else e1 e2, swap_else i2 e]
          exact hi
  · have hqq : (q - 1) / 2 ≠ q := by omega
    have hqj' : (q - 1) / 2 ≠ j := by omega
    rw [swap_else hqq hqj']
    have hu := h.1 q (by omega) (by omega) hqj
    by_cases e : i = j
    · subst e
      rw [swap_snd (by omega)]
      exact hu
    · rw [swap_else (by omega) e]
      have := h.1 i i0 i1 e
      rw [i2] at this
      omega

/-- all is right but below i, downward -/
def downI (n : Nat) (l : List Int) (i : Nat) : Prop := (∀ c, 0 < c → c < n → (c - 1) / 2 ≠ i → nth l ((c - 1) / 2) ≤ nth l c) ∧ (∀ c, 0 < c → c < n → (c - 1) / 2 = i → 0 < i → nth l ((i - 1) / 2) ≤ nth l c)
theorem down_start {n : Nat} {l : List Int} (h : heapN (n + 1) l) : downI n (swapL l 0 n) 0 := by
  refine ⟨fun c h0 h1 h2 => ?_, fun c h0 h1 h2 h3 => by omega⟩
  rw [swap_else (by omega) (by omega), swap_else (by omega) (by omega)]
  exact h c h0 (by omega)
theorem down_leaf {n i : Nat} {l : List Int} (h : downI n l i) (hi : n ≤ 2 * i + 1) : heapN n l := by
  intro c h0 h1
  exact h.1 c h0 h1 (by omega)
/-- the lesser one of those below -/
def lesser (n : Nat) (l : List Int) (i j : Nat) : Prop := 0 < j ∧ j < n ∧ (j - 1) / 2 = i ∧ ∀ c, 0 < c → c < n → (c - 1) / 2 = i → nth l j ≤ nth l c
theorem lesser_one {n i : Nat} {l : List Int} (h1 : 2 * i + 1 < n) (h2 : ¬ (2 * i + 2 < n)) : lesser n l i (2 * i + 1) :=
  ⟨by omega, h1, by omega, fun c c0 c1 c2 => by
    have : c = 2 * i + 1 := by omega
    subst this; exact Int.le_refl _⟩
theorem lesser_snd {n i : Nat} {l : List Int} (h2 : 2 * i + 2 < n) (hlt : nth l (2 * i + 2) < nth l (2 * i + 1)) : lesser n l i (2 * i + 2) :=
  ⟨by omega, h2, by omega, fun c c0 c1 c2 => by
    rcases (by omega : c = 2 * i + 1 ∨ c = 2 * i + 2) with e | e
    · subst e; omega
    · subst e; exact Int.le_refl _⟩
theorem lesser_fst {n i : Nat} {l : List Int} (h2 : 2 * i + 2 < n) (hlt : ¬ (nth l (2 * i + 2) < nth l (2 * i + 1))) : lesser n l i (2 * i + 1) :=
  ⟨by omega, by omega, by omega, fun c c0 c1 c2 => by
    rcases (by omega : c = 2 * i + 1 ∨ c = 2 * i + 2) with e | e
    · subst e; exact Int.le_refl _
    · subst e; omega⟩
theorem down_end {n i j : Nat} {l : List Int} (h : downI n l i) (hj : lesser n l i j) (hle : ¬ (nth l j < nth l i)) : heapN n l := by
  intro c h0 h1
  by_cases e : (c - 1) / 2 = i
  · have := hj.2.2.2 c h0 h1 e
    rw [e]; omega
  · exact h.1 c h0 h1 e
theorem down_step {n i j : Nat} {l : List Int} (h : downI n l i) (hn : n ≤ l.length) (hj : lesser n l i j) (hlt : nth l j < nth l i) : downI n (swapL l i j) j := by
  obtain ⟨j0, j1, j2, j3⟩ := hj
  have hij : i < j := by omega
  refine ⟨fun c c0 c1 c2 => ?_, fun c c0 c1 c2 c3 => ?_⟩
  · by_cases e : c = j
    · subst e
      rw [j2, swap_fst (by omega) (by omega), swap_snd (by omega)]
      omega
    · by_cases e1 : (c - 1) / 2 = i
      · rw [e1, swap_fst (by omega) (by omega), swap_else (by omega) e]
        exact j3 c c0 c1 e1
      · have hc := h.1 c c0 c1 e1
        by_cases e2 : c = i
        · subst e2
          rw [swap_fst (by omega) (by omega), swap_else (by omega) c2]
          exact h.2 j j0 j1 j2 c0
        · rw [swap_else e1 c2, swap_else e2 e]
          exact hc
  · have hc := h.1 c c0 c1 (by omega)
    rw [c2] at hc
    rw [j2, swap_fst (by omega) (by omega), swap_else (by omega) (by omega)]
    exact hc
/-- what lies beyond n stays -/
theorem swap_last {l : List Int} {i j n : Nat} (hi : i < n) (hj : j < n) : nth (swapL l i j) n = nth l n := swap_else (by omega) (by omega)
theorem heap_take {n : Nat} {l : List Int} (h : heapN n l) : heapN n (l.take n) := by
  intro i h0 h1
  rw [nth_take (by omega), nth_take h1]
  exact h i h0 h1
theorem take_last {l : List Int} {n : Nat} (hl : l.length = n + 1) : l.take n ++ [nth l n] = l := by
  rw [nth_elem (by omega), ← List.take_succ_eq_append_getElem (by omega), List.take_of_length_le (by omega)]
end Go.Proofs.YtamojciiacmjaaaDoor.Num
/- The order of nodes by their inputs, those that are needed, and who uses whom, as plain lists. No Go in sight. -/
namespace Go.Proofs.YtamojciiacmjaaaDoor.Num

/-- a node's inputs, as they stand -/
def inL (G : List (List Int)) (i : Nat) : List Int := G.getD i []
/-- has a node another one as an input? -/
def hasB (G : List (List Int)) (i k : Nat) : Bool := (inL G i).contains (k : Int)
theorem has_iff {G : List (List Int)} {i k : Nat} : hasB G i k = true ↔ (k : Int) ∈ inL G i := by unfold hasB; simp

/-- may it come next? -/
def readyB (G : List (List Int)) (L : List Nat) (i : Nat) : Bool := !L.contains i && (List.range G.length).all fun k => !hasB G i k || L.contains k
def nextG (G : List (List Int)) (L : List Nat) : Option Nat := (List.range G.length).find? (readyB G L)
def ordF (G : List (List Int)) : Nat → List Nat → List Nat
  | 0, L => L
  | f + 1, L => match nextG G L with
    | none => L
    | some i => ordF G f (L ++ [i])
def ordG (G : List (List Int)) : List Nat := ordF G G.length []
/-- do nodes lead round? -/
def roundB (G : List (List Int)) : Bool := decide ((ordG G).length < G.length)

theorem ready_iff {G : List (List Int)} {L : List Nat} {i : Nat} : readyB G L i = true ↔ i ∉ L ∧ ∀ k, k < G.length → hasB G i k = true → k ∈ L := by
  unfold readyB
  simp only [Bool.and_eq_true, Bool.not_eq_true', List.all_eq_true, List.mem_range, Bool.or_eq_true, List.contains_eq_mem, decide_eq_true_eq, decide_eq_false_iff_not]
  refine and_congr Iff.rfl ⟨fun h k hk hh => ?_, fun h k hk => ?_⟩
  · rcases h k hk with h1 | h1
    · rw [hh] at h1; cases h1
    · exact h1
  · cases hh : hasB G i k with
    | false => exact Or.inl rfl
    | true => exact Or.inr (h k hk hh)
theorem next_some {G : List (List Int)} {L : List Nat} {i : Nat} : nextG G L = some i ↔ i < G.length ∧ readyB G L i = true ∧ ∀ j, j < i → readyB G L j = false := by
  unfold nextG
  rw [List.find?_range_eq_some]
  simp only [List.mem_range, Bool.not_eq_true']
  exact ⟨fun ⟨h1, h2, h3⟩ => ⟨h2, h1, h3⟩, fun ⟨h1, h2, h3⟩ => ⟨h2, h1, h3⟩⟩
theorem next_none {G : List (List Int)} {L : List Nat} : nextG G L = none ↔ ∀ i, i < G.length → readyB G L i = false := by
  unfold nextG
  rw [List.find?_eq_none]
  simp

theorem nodup_len : ∀ (n : Nat) {L : List Nat}, L.Nodup → (∀ i, i ∈ L → i < n) → L.length ≤ n
  | 0, L, hn, h => by
    cases L with
    | nil => simp
    | cons a l => have := h a (by simp); omega
  | n + 1, L, hn, h => by
    by_cases hm : n ∈ L
    · have h1 := nodup_len n (hn.erase n) (fun i hi => by
        have h2 := h i (List.mem_of_mem_erase hi)
        have h3 : i ≠ n := fun e => by subst e; exact hn.not_mem_erase hi
        omega)
      rw [List.length_erase_of_mem hm] at h1
      omega
    · have := nodup_len n hn (fun i hi => by
        have h2 := h i hi
        have h3 : i ≠ n := fun e => by subst e; exact hm hi
        omega)
      omega
/-- as many as there are: all are there -/
theorem nodup_all {n : Nat} {L : List Nat} (hn : L.Nodup) (h : ∀ i, i ∈ L → i < n) (hl : n ≤ L.length) : ∀ i, i < n → i ∈ L := by
  intro i hi
  by_cases hm : i ∈ L
  · exact hm
  · have := nodup_len n (L := i :: L) (List.nodup_cons.2 ⟨hm, hn⟩) (fun j hj => by
      rcases List.mem_cons.1 hj with e | e
      · subst e; exact hi
      · exact h j e)
    simp at this
    omega

/-- an order as far as it has come -/
structure Ord (G : List (List Int)) (L : List Nat) : Prop where
  nodup : L.Nodup
  lt : ∀ i, i ∈ L → i < G.length
  ins : ∀ i, i ∈ L → ∀ k, k < G.length → hasB G i k = true → k ∈ L
  ahead : ∀ j, j < L.length → ∀ k, k < G.length → hasB G (L.getD j 0) k = true → k ∈ L.take j
theorem ord_nil (G : List (List Int)) : Ord G [] := ⟨List.nodup_nil, fun i h => (by cases h), fun i h => (by cases h), fun j h => by simp at h⟩
theorem ord_snoc {G : List (List Int)} {L : List Nat} {i : Nat} (h : Ord G L) (hi : i < G.length) (hr : readyB G L i = true) : Ord G (L ++ [i]) := by
  obtain ⟨h1, h2⟩ := ready_iff.1 hr
  refine ⟨?_, fun j hj => ?_, fun j hj k hk hh => ?_, fun j hj k hk hh => ?_⟩
  · rw [List.nodup_append]
    refine ⟨h.nodup, by simp, fun a ha b hb => ?_⟩
    simp at hb
    subst hb
    exact fun e => h1 (e ▸ ha)
  · rcases List.mem_append.1 hj with e | e
    · exact h.lt j e
    · simp at e; omega
  · rcases List.mem_append.1 hj with e | e
    · exact List.mem_append_left _ (h.ins j e k hk hh)
    · simp at e; subst e; exact List.mem_append_left _ (h2 k hk hh)
  · rw [List.length_append, List.length_singleton] at hj
    by_cases e : j < L.length
    · rw [List.take_append_of_le_length (by omega)]
      refine h.ahead j e k hk ?_
      rw [← hh, List.getD_eq_getElem?_getD, List.getD_eq_getElem?_getD, List.getElem?_append_left e]
    · obtain rfl : j = L.length := by omega
      rw [List.take_append_of_le_length (by omega), List.take_length]
      refine h2 k hk ?_
      rw [← hh, List.getD_eq_getElem?_getD, List.getElem?_append_right (by omega)]
      simp
theorem ord_len {G : List (List Int)} {L : List Nat} (h : Ord G L) : L.length ≤ G.length := nodup_len _ h.nodup h.lt
theorem ord_room {G : List (List Int)} {L : List Nat} (h : Ord G L) {i : Nat} (hi : i < G.length) (hr : readyB G L i = true) : L.length < G.length := by
  have := ord_len (ord_snoc h hi hr)
  rw [List.length_append, List.length_singleton] at this
  omega

/-- .. which leads to the whole -/
def St (G : List (List Int)) (L : List Nat) : Prop := Ord G L ∧ ordF G (G.length - L.length) L = ordG G
theorem st_nil (G : List (List Int)) : St G [] := ⟨ord_nil G, rfl⟩
theorem st_step {G : List (List Int)} {L : List Nat} {i : Nat} (h : St G L) (hn : nextG G L = some i) : St G (L ++ [i]) := by
  obtain ⟨hi, hr, -⟩ := next_some.1 hn
  have hroom := ord_room h.1 hi hr
  refine ⟨ord_snoc h.1 hi hr, ?_⟩
  rw [← h.2, List.length_append, List.length_singleton, show G.length - L.length = (G.length - (L.length + 1)) + 1 by omega, ordF, hn]
theorem st_end {G : List (List Int)} {L : List Nat} (h : St G L) (hn : nextG G L = none) : L = ordG G := by
  rw [← h.2]
  cases G.length - L.length with
  | zero => rfl
  | succ m => rw [ordF, hn]
theorem st_full {G : List (List Int)} {L : List Nat} (h : St G L) (hn : G.length ≤ L.length) : L = ordG G := by
  rw [← h.2, show G.length - L.length = 0 by omega]
  rfl
theorem ordF_st {G : List (List Int)} : ∀ (f : Nat) {L : List Nat}, Ord G L → f = G.length - L.length → Ord G (ordF G f L) ∧ (nextG G (ordF G f L) = none ∨ G.length ≤ (ordF G f L).length)
  | 0, L, h, hf => ⟨h, Or.inr (by show G.length ≤ L.length; omega)⟩
  | f + 1, L, h, hf => by
    cases hn : nextG G L with
    | none =>
      rw [ordF, hn]
      exact ⟨h, Or.inl hn⟩
    | some i =>
      obtain ⟨hi, hr, -⟩ := next_some.1 hn
      rw [ordF, hn]
      exact ordF_st f (ord_snoc h hi hr) (by rw [List.length_append, List.length_singleton]; omega)
theorem ordG_ord (G : List (List Int)) : Ord G (ordG G) := (ordF_st G.length (ord_nil G) (by simp)).1
/-- what has all its inputs in the order is in it -/
theorem ordG_closed {G : List (List Int)} {i : Nat} (hi : i < G.length) (h : ∀ k, k < G.length → hasB G i k = true → k ∈ ordG G) : i ∈ ordG G := by
  have ho := ordG_ord G
  rcases (ordF_st G.length (ord_nil G) (by simp)).2 with h1 | h1
  · by_cases hm : i ∈ ordG G
    · exact hm
    · have := next_none.1 h1 i hi
      rw [show readyB G (ordF G G.length []) i = true from ready_iff.2 ⟨hm, h⟩] at this
      cases this
  · exact nodup_all ho.nodup ho.lt h1 i hi
theorem round_iff {G : List (List Int)} : roundB G = false ↔ ∀ i, i < G.length → i ∈ ordG G := by
  unfold roundB
  rw [decide_eq_false_iff_not]
  refine ⟨fun h => nodup_all (ordG_ord G).nodup (ordG_ord G).lt (by omega), fun h hlt => ?_⟩
  have : (List.range G.length).length ≤ (ordG G).length := by
    have : ∀ (n : Nat) (L : List Nat), L.Nodup → (∀ i, i < n → i ∈ L) → n ≤ L.length := by
      intro n
      induction n with
      | zero => intro L _ _; exact Nat.zero_le _
      | succ n ih =>
        intro L hL hn
        have h1 := ih (L.erase n) (hL.erase n) (fun i hi => (List.mem_erase_of_ne (by omega)).2 (hn i (by omega)))
        rw [List.length_erase_of_mem (hn n (by omega))] at h1
        have : 0 < L.length := List.length_pos_of_mem (hn n (by omega))
        omega
    rw [List.length_range]
    exact this _ _ (ordG_ord G).nodup h
  rw [List.length_range] at this
  omega
/-- with inputs left out no more leads round -/
theorem round_less {G F : List (List Int)} (hl : F.length = G.length) (h : ∀ i k, hasB F i k = true → hasB G i k = true) (hr : roundB G = false) : roundB F = false := by
  rw [round_iff] at hr ⊢
  have ho := ordG_ord G
  have key : ∀ j, j < (ordG G).length → (ordG G).getD j 0 ∈ ordG F := by
    intro j
    induction j using Nat.strongRecOn with
    | _ j ih =>
      intro hj
      have hm : (ordG G).getD j 0 ∈ ordG G := by
        rw [List.getD_eq_getElem?_getD, List.getElem?_eq_getElem hj]
        exact List.getElem_mem hj
      refine ordG_closed (by rw [hl]; exact ho.lt _ hm) fun k hk hh => ?_
      have hk' := ho.ahead j hj k (by omega) (h _ _ hh)
      obtain ⟨q, hq, rfl⟩ := List.getElem_of_mem hk'
      rw [List.length_take] at hq
      have := ih q (by omega) (by omega)
      rw [List.getD_eq_getElem?_getD, List.getElem?_eq_getElem (by omega)] at this
      simpa using this
  intro i hi
  obtain ⟨j, hj, rfl⟩ := List.getElem_of_mem (hr i (by omega))
  have := key j hj
  rw [List.getD_eq_getElem?_getD, List.getElem?_eq_getElem hj] at this
  exact this
end Go.Proofs.YtamojciiacmjaaaDoor.Num
/- Who uses whom, how many inputs a node lacks, and what of it makes the order: plain lists. No Go in sight. -/
namespace Go.Proofs.YtamojciiacmjaaaDoor.Num

def castL (l : List Nat) : List Int := l.map fun (k : Nat) => (k : Int)
theorem castL_len (l : List Nat) : (castL l).length = l.length := by unfold castL; simp
theorem castL_app (l m : List Nat) : castL (l ++ m) = castL l ++ castL m := by unfold castL; simp
theorem castL_get {l : List Nat} {i k : Nat} (h : l[i]? = some k) : (castL l)[i]? = some (k : Int) := by unfold castL; rw [List.getElem?_map, h]; rfl
theorem castL_inj {l m : List Nat} (h : castL l = castL m) : l = m := by
  unfold castL at h
  exact (List.map_inj_right (fun a b e => by omega)).1 h

/-- those that have it as an input, rising -/
def usesG (G : List (List Int)) (i : Nat) : List Nat := (List.range G.length).filter fun k => hasB G k i
theorem mem_uses {G : List (List Int)} {i k : Nat} : k ∈ usesG G i ↔ k < G.length ∧ hasB G k i = true := by unfold usesG; simp
theorem uses_nodup (G : List (List Int)) (i : Nat) : (usesG G i).Nodup := List.Pairwise.filter _ List.nodup_range
theorem uses_len (G : List (List Int)) (i : Nat) : (usesG G i).length ≤ G.length := by
  unfold usesG
  have := List.length_filter_le (fun k => hasB G k i) (List.range G.length)
  rw [List.length_range] at this
  exact this
/-- .. as far as so many nodes, and so many of the next one's inputs, are done -/
def usesP (G : List (List Int)) (a j i : Nat) : List Nat := (List.range a).filter (fun k => hasB G k i) ++ if (i : Int) ∈ (inL G a).take j then [a] else []
theorem usesP_start (G : List (List Int)) (i : Nat) : usesP G 0 0 i = [] := by unfold usesP; simp
theorem usesP_end (G : List (List Int)) (i : Nat) : usesP G G.length 0 i = usesG G i := by unfold usesP usesG; simp
theorem usesP_next (G : List (List Int)) (a i : Nat) : usesP G a (inL G a).length i = usesP G (a + 1) 0 i := by
  unfold usesP
  rw [List.range_succ, List.filter_append]
  simp only [List.take_length, List.take_zero, List.not_mem_nil, if_false, List.append_nil]
  congr 1
  by_cases h : (i : Int) ∈ inL G a
  · rw [if_pos h]; simp [has_iff.2 h]
  · rw [if_neg h]
    have : hasB G a i = false := by
      cases hh : hasB G a i with
      | false => rfl
      | true => exact absurd (has_iff.1 hh) h
    simp [this]
theorem usesP_same {G : List (List Int)} {a j i : Nat} {x : Int} (hx : (inL G a)[j]? = some x) (h : x ≠ (i : Int)) : usesP G a (j + 1) i = usesP G a j i := by
  unfold usesP
  rw [List.take_add_one, hx]
  congr 1
  by_cases h1 : (i : Int) ∈ (inL G a).take j
  · rw [if_pos h1, if_pos (List.mem_append_left _ h1)]
  · rw [if_neg h1, if_neg]
    intro h2
    rcases List.mem_append.1 h2 with e | e
    · exact h1 e
    · simp at e; exact h e.symm
theorem usesP_last {G : List (List Int)} {a j i : Nat} (h : (i : Int) ∈ (inL G a).take j) : usesP G a (j + 1) i = usesP G a j i := by
  unfold usesP
  rw [List.take_add_one, if_pos h, if_pos (List.mem_append_left _ h)]
theorem usesP_more {G : List (List Int)} {a j i : Nat} (hx : (inL G a)[j]? = some (i : Int)) (h : ¬ ((i : Int) ∈ (inL G a).take j)) : usesP G a (j + 1) i = usesP G a j i ++ [a] := by
  unfold usesP
  rw [List.take_add_one, hx, if_neg h, if_pos (by simp)]
  simp
/-- is it the last one already? -/
def endsB (l : List Int) (n : Int) : Bool := decide (l ≠ [] ∧ nth l (l.length - 1) = n)
theorem usesP_ends {G : List (List Int)} {a j i : Nat} : endsB (castL (usesP G a j i)) (a : Int) = decide ((i : Int) ∈ (inL G a).take j) := by
  unfold endsB
  by_cases h : (i : Int) ∈ (inL G a).take j
  · rw [decide_eq_true h, decide_eq_true_eq]
    unfold usesP
    rw [if_pos h, castL_app]
    refine ⟨by simp [castL], ?_⟩
    unfold nth
    simp [castL]
  · rw [decide_eq_false h, decide_eq_false_iff_not]
    unfold usesP
    rw [if_neg h, List.append_nil]
    rintro ⟨h1, h2⟩
    have hl : 0 < (castL ((List.range a).filter fun k => hasB G k i)).length := List.length_pos_iff.2 h1
    have hm := nth_mem (l := castL ((List.range a).filter fun k => hasB G k i)) (i := (castL ((List.range a).filter fun k => hasB G k i)).length - 1) (by omega)
    rw [h2] at hm
    unfold castL at hm
    obtain ⟨k, hk, e⟩ := List.mem_map.1 hm
    simp at hk
    omega
theorem usesP_len (G : List (List Int)) (a j i : Nat) : (usesP G a j i).length ≤ a + 1 := by
  unfold usesP
  rw [List.length_append]
  have := List.length_filter_le (fun k => hasB G k i) (List.range a)
  rw [List.length_range] at this
  split <;> simp <;> omega

/-- how often a number stands in the first lists, and the beginning of the next -/
def lackP (U : List (List Nat)) (i j k : Nat) : Nat := ((U.take i).flatten ++ (U.getD i []).take j).count k
theorem lackP_start (U : List (List Nat)) (k : Nat) : lackP U 0 0 k = 0 := by unfold lackP; simp
theorem lackP_next {U : List (List Nat)} {i : Nat} (k : Nat) (hi : i < U.length) : lackP U i (U.getD i []).length k = lackP U (i + 1) 0 k := by
  unfold lackP
  rw [List.take_length, List.take_succ_eq_append_getElem hi, List.flatten_append]
  simp [hi]
theorem lackP_step {U : List (List Nat)} {i j u : Nat} (k : Nat) (h : (U.getD i [])[j]? = some u) : lackP U i (j + 1) k = lackP U i j k + if u = k then 1 else 0 := by
  unfold lackP
  rw [List.take_add_one, h, List.count_append, List.count_append, List.count_append]
  by_cases e : u = k
  · subst e; simp; omega
  · simp [e]
theorem lackP_end (U : List (List Nat)) (k : Nat) : lackP U U.length 0 k = U.flatten.count k := by unfold lackP; simp

/-- how many inputs a node lacks -/
def lackN (G : List (List Int)) (L : List Nat) (k : Nat) : Nat := (List.range G.length).countP fun i => hasB G k i && !L.contains i
theorem count_filter (p : Nat → Bool) (k : Nat) : ∀ n, ((List.range n).filter p).count k = if k < n ∧ p k = true then 1 else 0
  | 0 => by simp
  | n + 1 => by
    rw [List.range_succ, List.filter_append, List.count_append, count_filter p k n]
    by_cases e : n = k
    · subst e
      by_cases h : p n = true
      · simp [h]
      · simp [h]
    · have h0 : (List.filter p [n]).count k = 0 := by
        rw [List.count_eq_zero]
        intro hm
        have := (List.mem_filter.1 hm).1
        simp at this
        omega
      rw [h0]
      by_cases h : k < n
      · simp [h, show k < n + 1 by omega]
      · simp [h, show ¬ (k < n + 1) by omega]
theorem count_uses {G : List (List Int)} {k : Nat} (hk : k < G.length) : ∀ n, (((List.range n).map (usesG G)).flatten).count k = (List.range n).countP fun i => hasB G k i
  | 0 => by simp
  | n + 1 => by
    rw [List.range_succ, List.map_append, List.flatten_append, List.count_append, List.countP_append, count_uses hk n]
    congr 1
    rw [List.map_singleton, List.flatten_cons, List.flatten_nil, List.append_nil]
    unfold usesG
    rw [count_filter]
    by_cases h : hasB G k n = true
    · rw [if_pos ⟨hk, h⟩]; simp [h]
    · rw [if_neg (fun hc => h hc.2)]; simp [h]
def usesL (G : List (List Int)) : List (List Nat) := (List.range G.length).map (usesG G)
theorem usesL_len (G : List (List Int)) : (usesL G).length = G.length := by unfold usesL; simp
theorem usesL_get {G : List (List Int)} {i : Nat} (h : i < G.length) : (usesL G)[i]? = some (usesG G i) := by unfold usesL; rw [List.getElem?_map, List.getElem?_range h]; rfl
theorem lack_start {G : List (List Int)} {k : Nat} (hk : k < G.length) : lackP (usesL G) (usesL G).length 0 k = lackN G [] k := by
  rw [lackP_end]
  unfold usesL lackN
  rw [count_uses hk]
  simp
theorem lack_ready {G : List (List Int)} {L : List Nat} {k : Nat} : readyB G L k = true ↔ k ∉ L ∧ lackN G L k = 0 := by
  rw [ready_iff]
  refine and_congr Iff.rfl ?_
  unfold lackN
  rw [List.countP_eq_zero]
  refine ⟨fun h i hi => ?_, fun h i hi hh => ?_⟩
  · have hi' := List.mem_range.1 hi
    intro hc
    simp at hc
    exact hc.2 (h i hi' hc.1)
  · have := h i (List.mem_range.2 hi)
    simp [hh] at this
    exact this
theorem cnt_split (p : Nat → Bool) (a : Nat) : ∀ n, a < n → (List.range n).countP p = (List.range n).countP (fun i => p i && i != a) + if p a = true then 1 else 0
  | 0, h => by omega
  | n + 1, h => by
    rw [List.range_succ, List.countP_append, List.countP_append]
    by_cases e : a = n
    · subst e
      have : (List.range a).countP p = (List.range a).countP (fun i => p i && i != a) := by
        apply List.countP_congr
        intro i hi
        have := List.mem_range.1 hi
        have h2 : (i != a) = true := by simp; omega
        rw [h2, Bool.and_true]
      rw [this]
      by_cases hp : p a = true
      · simp [hp]
      · simp [hp]
    · have ih := cnt_split p a n (by omega)
      have h2 : (n != a) = true := by simp; omega
      rw [ih]
      simp only [List.countP_singleton, h2, Bool.and_true]
      omega
theorem lack_snoc {G : List (List Int)} {L : List Nat} {a : Nat} (k : Nat) (ha : a < G.length) (hn : a ∉ L) : lackN G L k = lackN G (L ++ [a]) k + if hasB G k a = true then 1 else 0 := by
  unfold lackN
  rw [cnt_split _ a _ ha]
  congr 1
  · apply List.countP_congr
    intro i hi
    simp
    constructor
    · rintro ⟨⟨h1, h2⟩, h3⟩; exact ⟨h1, h2, h3⟩
    · rintro ⟨h1, h2, h3⟩; exact ⟨⟨h1, h2⟩, h3⟩
  · simp [hn]

/-- a bag of just these places, each once -/
def Bag (l : List Int) (S : Nat → Prop) : Prop := l.Nodup ∧ ∀ x, x ∈ l ↔ ∃ k : Nat, x = (k : Int) ∧ S k
theorem bag_nil : Bag [] fun _ => False := ⟨List.nodup_nil, fun x => by simp⟩
theorem bag_iff {l : List Int} {S T : Nat → Prop} (h : Bag l S) (e : ∀ k, S k ↔ T k) : Bag l T := ⟨h.1, fun x => (h.2 x).trans ⟨fun ⟨k, h1, h2⟩ => ⟨k, h1, (e k).1 h2⟩, fun ⟨k, h1, h2⟩ => ⟨k, h1, (e k).2 h2⟩⟩⟩
theorem bag_push {l : List Int} {S : Nat → Prop} (h : Bag l S) {u : Nat} (hu : ¬ S u) : Bag (l ++ [(u : Int)]) fun k => S k ∨ k = u := by
  refine ⟨?_, fun x => ?_⟩
  · rw [List.nodup_append]
    refine ⟨h.1, by simp, fun a ha b hb => ?_⟩
    simp at hb
    subst hb
    intro e
    subst e
    obtain ⟨k, h1, h2⟩ := (h.2 _).1 ha
    have : k = u := by omega
    exact hu (this ▸ h2)
  · rw [List.mem_append, h.2 x]
    constructor
    · rintro (⟨k, h1, h2⟩ | h1)
      · exact ⟨k, h1, Or.inl h2⟩
      · simp at h1; exact ⟨u, h1, Or.inr rfl⟩
    · rintro ⟨k, h1, h2 | h2⟩
      · exact Or.inl ⟨k, h1, h2⟩
      · subst h2; exact Or.inr (by simp [h1])
theorem bag_pop {l l' : List Int} {S : Nat → Prop} {m : Int} (h : Bag l S) (hp : (m :: l').Perm l) (hm : ∀ x, x ∈ l → m ≤ x) : ∃ a : Nat, m = (a : Int) ∧ S a ∧ (∀ k, S k → a ≤ k) ∧ Bag l' fun k => S k ∧ k ≠ a := by
  have hml : m ∈ l := hp.mem_iff.1 (by simp)
  obtain ⟨a, rfl, ha⟩ := (h.2 m).1 hml
  have hnd : ((a : Int) :: l').Nodup := hp.nodup_iff.2 h.1
  rw [List.nodup_cons] at hnd
  refine ⟨a, rfl, ha, fun k hk => ?_, hnd.2, fun x => ?_⟩
  · have := hm k ((h.2 _).2 ⟨k, rfl, hk⟩)
    omega
  · constructor
    · intro hx
      obtain ⟨k, h1, h2⟩ := (h.2 x).1 (hp.mem_iff.1 (List.mem_cons_of_mem _ hx))
      refine ⟨k, h1, h2, fun e => ?_⟩
      subst e; subst h1
      exact hnd.1 hx
    · rintro ⟨k, h1, h2, h3⟩
      have := hp.mem_iff.2 ((h.2 x).2 ⟨k, h1, h2⟩)
      rcases List.mem_cons.1 this with e | e
      · omega
      · exact e
theorem bag_empty {S : Nat → Prop} (h : Bag [] S) (k : Nat) : ¬ S k := fun hk => by have := (h.2 k).2 ⟨k, rfl, hk⟩; cases this

/-- ahead of the next one: what is in the order, what each lacks, and which may come -/
structure Ka (G : List (List Int)) (L : List Nat) (K H : List Int) : Prop where
  st : St G L
  len : K.length = G.length
  lack : ∀ k, k < G.length → nth K k = (lackN G L k : Int)
  bag : Bag H fun k => k < G.length ∧ k ∉ L ∧ nth K k = 0
/-- .. with so many of the users of the one that has come done -/
structure Kb (G : List (List Int)) (L : List Nat) (a j : Nat) (K H : List Int) : Prop where
  st : St G L
  next : nextG G L = some a
  len : K.length = G.length
  lack : ∀ k, k < G.length → nth K k = (lackN G L k : Int) - if k ∈ (usesG G a).take j then 1 else 0
  bag : Bag H fun k => k < G.length ∧ k ∉ L ++ [a] ∧ nth K k = 0
theorem ka_none {G : List (List Int)} {L : List Nat} {K : List Int} (h : Ka G L K []) : L = ordG G := by
  refine st_end h.st (next_none.2 fun i hi => ?_)
  cases hr : readyB G L i with
  | false => rfl
  | true =>
    obtain ⟨h1, h2⟩ := lack_ready.1 hr
    exact absurd ⟨hi, h1, by rw [h.lack i hi, h2]; rfl⟩ (bag_empty h.bag i)
theorem ka_pop {G : List (List Int)} {L : List Nat} {K H H' : List Int} {m : Int} (h : Ka G L K H) (hp : (m :: H').Perm H) (hm : ∀ x, x ∈ H → m ≤ x) : ∃ a : Nat, m = (a : Int) ∧ a < G.length ∧ L.length < G.length ∧ Kb G L a 0 K H' := by
  obtain ⟨a, e, ⟨h1, h2, h3⟩, h4, h5⟩ := bag_pop h.bag hp hm
  have h3' : lackN G L a = 0 := by have := h.lack a h1; rw [h3] at this; omega
  have hr : readyB G L a = true := lack_ready.2 ⟨h2, h3'⟩
  have hnext : nextG G L = some a := by
    refine next_some.2 ⟨h1, hr, fun j hj => ?_⟩
    cases hj' : readyB G L j with
    | false => rfl
    | true =>
      obtain ⟨g1, g2⟩ := lack_ready.1 hj'
      have := h4 j ⟨by omega, g1, by rw [h.lack j (by omega), g2]; rfl⟩
      omega
  refine ⟨a, e, h1, ord_room h.st.1 h1 hr, h.st, hnext, h.len, fun k hk => by rw [h.lack k hk]; simp, bag_iff h5 fun k => ?_⟩
  rw [List.mem_append, List.mem_singleton]
  constructor
  · rintro ⟨⟨g1, g2, g3⟩, g4⟩; exact ⟨g1, fun hc => by rcases hc with hc | hc; exact g2 hc; exact g4 hc, g3⟩
  · rintro ⟨g1, g2, g3⟩; exact ⟨⟨g1, fun hc => g2 (Or.inl hc), g3⟩, fun hc => g2 (Or.inr hc)⟩
theorem kb_user {G : List (List Int)} {L : List Nat} {a j u : Nat} {K H : List Int} (h : Kb G L a j K H) (hu : (usesG G a)[j]? = some u) : u < G.length ∧ 1 ≤ nth K u ∧ nth K u ≤ (G.length : Int) ∧ u ∉ L ++ [a] ∧ u ∉ (usesG G a).take j := by
  obtain ⟨hj, e⟩ := List.getElem?_eq_some_iff.1 hu
  obtain ⟨h1, h2⟩ := mem_uses.1 (e ▸ List.getElem_mem hj)
  obtain ⟨a1, a2, -⟩ := next_some.1 h.next
  obtain ⟨b1, b2⟩ := ready_iff.1 a2
  have hnt : u ∉ (usesG G a).take j := by
    intro hm
    obtain ⟨q, hq, e2⟩ := List.getElem_of_mem hm
    rw [List.length_take] at hq
    rw [List.getElem_take] at e2
    have := (List.getElem_inj (uses_nodup G a)).1 (e2.trans e.symm)
    omega
  have hs := lack_snoc (G := G) (L := L) u a1 b1
  rw [if_pos h2] at hs
  have hl : lackN G L u ≤ G.length := by
    unfold lackN
    have := List.countP_le_length (p := fun i => hasB G u i && !L.contains i) (l := List.range G.length)
    rw [List.length_range] at this
    exact this
  refine ⟨h1, ?_, ?_, fun hm => ?_, hnt⟩
  · rw [h.lack u h1, if_neg hnt]; omega
  · rw [h.lack u h1, if_neg hnt]; omega
  · rcases List.mem_append.1 hm with hm | hm
    · exact b1 (h.st.1.ins u hm a a1 h2)
    · simp at hm; subst hm; exact b1 (b2 u a1 h2)
theorem kb_less {G : List (List Int)} {L : List Nat} {a j u : Nat} {K H : List Int} (h : Kb G L a j K H) (hu : (usesG G a)[j]? = some u) (k : Nat) (hk : k < G.length) :
    nth (K.set u (nth K u - 1)) k = (lackN G L k : Int) - if k ∈ (usesG G a).take (j + 1) then 1 else 0 := by
  obtain ⟨h1, h2, -, h3, h4⟩ := kb_user h hu
  rw [List.take_add_one, hu]
  by_cases e : k = u
  · subst e
    rw [nth_set_eq (by rw [h.len]; exact h1), h.lack k h1, if_neg h4, if_pos (by simp)]
    omega
  · rw [nth_set_ne (Ne.symm e), h.lack k hk]
    congr 1
    by_cases hm : k ∈ (usesG G a).take j
    · rw [if_pos hm, if_pos (List.mem_append_left _ hm)]
    · rw [if_neg hm, if_neg]
      intro hc
      rcases List.mem_append.1 hc with hc | hc
      · exact hm hc
      · simp at hc; exact e hc
theorem kb_step {G : List (List Int)} {L : List Nat} {a j u : Nat} {K H : List Int} (h : Kb G L a j K H) (hu : (usesG G a)[j]? = some u) (hz : nth K u - 1 ≠ 0) : Kb G L a (j + 1) (K.set u (nth K u - 1)) H := by
  obtain ⟨h1, h2, -, h3, h4⟩ := kb_user h hu
  refine ⟨h.st, h.next, by simpa using h.len, kb_less h hu, bag_iff h.bag fun k => ?_⟩
  by_cases e : k = u
  · subst e
    rw [nth_set_eq (by rw [h.len]; exact h1)]
    constructor
    · rintro ⟨-, -, g⟩; omega
    · rintro ⟨-, -, g⟩; exact absurd g hz
  · rw [nth_set_ne (Ne.symm e)]
theorem kb_push {G : List (List Int)} {L : List Nat} {a j u : Nat} {K H : List Int} (h : Kb G L a j K H) (hu : (usesG G a)[j]? = some u) (hz : nth K u - 1 = 0) : Kb G L a (j + 1) (K.set u (nth K u - 1)) (H ++ [(u : Int)]) := by
  obtain ⟨h1, h2, -, h3, h4⟩ := kb_user h hu
  refine ⟨h.st, h.next, by simpa using h.len, kb_less h hu, bag_iff (bag_push h.bag (u := u) (fun hc => by have := hc.2.2; omega)) fun k => ?_⟩
  by_cases e : k = u
  · subst e
    rw [nth_set_eq (by rw [h.len]; exact h1)]
    exact ⟨fun _ => ⟨h1, h3, hz⟩, fun _ => Or.inr rfl⟩
  · rw [nth_set_ne (Ne.symm e)]
    exact ⟨fun hc => by rcases hc with hc | hc; exact hc; exact absurd hc e, fun hc => Or.inl hc⟩
theorem kb_end {G : List (List Int)} {L : List Nat} {a : Nat} {K H : List Int} (h : Kb G L a (usesG G a).length K H) : Ka G (L ++ [a]) K H := by
  obtain ⟨a1, a2, -⟩ := next_some.1 h.next
  obtain ⟨b1, b2⟩ := ready_iff.1 a2
  refine ⟨st_step h.st h.next, h.len, fun k hk => ?_, h.bag⟩
  rw [h.lack k hk, List.take_length, lack_snoc k a1 b1]
  by_cases hh : hasB G k a = true
  · rw [if_pos hh, if_pos (mem_uses.2 ⟨hk, hh⟩)]; omega
  · rw [if_neg hh, if_neg (fun hc => hh (mem_uses.1 hc).2)]; omega
/-- .. of the first so many places -/
structure K0 (G : List (List Int)) (a : Nat) (K H : List Int) : Prop where
  len : K.length = G.length
  lack : ∀ k, k < G.length → nth K k = (lackN G [] k : Int)
  bag : Bag H fun k => k < a ∧ nth K k = 0
theorem k0_start {G : List (List Int)} {K : List Int} (h1 : K.length = G.length) (h2 : ∀ k, k < G.length → nth K k = (lackN G [] k : Int)) : K0 G 0 K [] := ⟨h1, h2, bag_iff bag_nil fun _ => ⟨fun h => h.elim, fun h => (Nat.not_lt_zero _ h.1).elim⟩⟩
theorem k0_push {G : List (List Int)} {a : Nat} {K H : List Int} (h : K0 G a K H) (hz : nth K a = 0) : K0 G (a + 1) K (H ++ [(a : Int)]) :=
  ⟨h.len, h.lack, bag_iff (bag_push h.bag (u := a) (by omega)) fun k => by
    constructor
    · rintro (⟨h1, h2⟩ | h1)
      · exact ⟨by omega, h2⟩
      · subst h1; exact ⟨by omega, hz⟩
    · rintro ⟨h1, h2⟩
      by_cases e : k = a
      · exact Or.inr e
      · exact Or.inl ⟨by omega, h2⟩⟩
theorem k0_step {G : List (List Int)} {a : Nat} {K H : List Int} (h : K0 G a K H) (hz : nth K a ≠ 0) : K0 G (a + 1) K H :=
  ⟨h.len, h.lack, bag_iff h.bag fun k => by
    constructor
    · rintro ⟨h1, h2⟩; exact ⟨by omega, h2⟩
    · rintro ⟨h1, h2⟩
      by_cases e : k = a
      · subst e; exact absurd h2 hz
      · exact ⟨by omega, h2⟩⟩
theorem k0_end {G : List (List Int)} {K H : List Int} (h : K0 G G.length K H) : Ka G [] K H := ⟨st_nil G, h.len, h.lack, bag_iff h.bag fun k => by simp⟩
end Go.Proofs.YtamojciiacmjaaaDoor.Num
/- What is asked of parameters, as plain functions of lists. -/
namespace Go.Proofs.YtamojciiacmjaaaDoor.Num

/-- a function of lists of numbers -/
abbrev Fn1 := List Int → Bool
/-- is the number at a place within? -/
def inB (i : Nat) (lo hi : Int) (l : List Int) : Bool := decide (lo ≤ nth l i) && decide (nth l i ≤ hi)
def insB (start count : Nat) (lo hi : Int) : List Fn1 := (List.range count).map fun i => inB (start + i) lo hi
theorem insB_len (s c : Nat) (lo hi : Int) : (insB s c lo hi).length = c := by unfold insB; simp
theorem insB_succ (s k : Nat) (lo hi : Int) : insB s (k + 1) lo hi = insB s k lo hi ++ [inB (s + k) lo hi] := by unfold insB; rw [List.range_succ, List.map_append]; rfl
/-- the last one asks something besides -/
def togB : List Fn1 → Fn1 → List Fn1
  | [], _ => []
  | [f], g => [fun l => f l && g l]
  | f :: h :: r, g => f :: togB (h :: r) g
theorem togB_snoc : ∀ (fs : List Fn1) (f g : Fn1), togB (fs ++ [f]) g = fs ++ [fun l => f l && g l]
  | [], f, g => rfl
  | [a], f, g => rfl
  | a :: b :: r, f, g => by
    show a :: togB (b :: r ++ [f]) g = _
    rw [togB_snoc (b :: r) f g]
    rfl
theorem togB_len : ∀ (fs : List Fn1) (g : Fn1), (togB fs g).length = fs.length
  | [], _ => rfl
  | [_], _ => rfl
  | f :: h :: r, g => by show (togB (h :: r) g).length + 1 = _; rw [togB_len (h :: r) g]; rfl
def allB (fs : List Fn1) (l : List Int) : Bool := fs.all fun f => f l
theorem allB_tog : ∀ (fs : List Fn1) (g : Fn1) (l : List Int), fs ≠ [] → allB (togB fs g) l = (allB fs l && g l)
  | [], _, _, h => absurd rfl h
  | [f], g, l, _ => by simp [togB, allB]
  | f :: h :: r, g, l, _ => by
    have := allB_tog (h :: r) g l (by simp)
    unfold allB at this ⊢
    show (f l && (togB (h :: r) g).all _) = _
    rw [this]
    simp [Bool.and_assoc]
theorem allB_app (a b : List Fn1) (l : List Int) : allB (a ++ b) l = (allB a l && allB b l) := by unfold allB; rw [List.all_append]
/-- are so many from a place on within? -/
def nearB (l : List Int) (s c : Nat) (lo hi : Int) : Bool := allB (insB s c lo hi) l
theorem nearB_zero (l : List Int) (s : Nat) (lo hi : Int) : nearB l s 0 lo hi = true := rfl
theorem nearB_succ (l : List Int) (s k : Nat) (lo hi : Int) : nearB l s (k + 1) lo hi = (nearB l s k lo hi && inB (s + k) lo hi l) := by
  unfold nearB
  rw [insB_succ, allB_app]
  simp [allB]
theorem nearB_iff (l : List Int) (s c : Nat) (lo hi : Int) : nearB l s c lo hi = true ↔ ∀ i, i < c → lo ≤ nth l (s + i) ∧ nth l (s + i) ≤ hi := by
  unfold nearB allB insB
  rw [List.all_map, List.all_eq_true]
  constructor
  · intro h i hi'
    have := h i (List.mem_range.2 hi')
    simpa [inB] using this
  · intro h i hi'
    have := h i (List.mem_range.1 hi')
    simpa [inB] using this
/-- a matrix -/
def okI (n : Int) : Bool := decide (-32768 ≤ n) && decide (n ≤ 32767)
theorem ok_yes {n : Int} (h : -32768 ≤ n ∧ n ≤ 32767) : okI n = true := by simp [okI, h.1, h.2]
theorem ok_no {n : Int} (h : n < -32768 ∨ 32767 < n) : okI n = false := by
  simp only [okI, Bool.and_eq_false_iff, decide_eq_false_iff_not]; omega
def rightM (l : List Int) : Bool := decide (l.length = 20) && l.all okI
theorem all_step {l : List Int} {k : Nat} {m : Int} (h : l[k]? = some m) : (l.drop k).all okI = (okI m && (l.drop (k + 1)).all okI) := by
  obtain ⟨hk, rfl⟩ := List.getElem?_eq_some_iff.1 h
  rw [List.drop_eq_getElem_cons hk]; rfl
theorem rightM_len {l : List Int} (h : l.length ≠ 20) : rightM l = false := by unfold rightM; simp [h]
theorem rightM_all {l : List Int} (h : l.length = 20) : rightM l = l.all okI := by unfold rightM; simp [h]
theorem rightM_bad {l : List Int} (h : l.all okI = false) : rightM l = false := by unfold rightM; rw [h, Bool.and_false]
/-- a right pixel -/
def rightB (r g b a : Int) : Bool := decide (r ≤ a) && (decide (g ≤ a) && decide (b ≤ a))
/-- .. of numbers that are cut to bytes -/
def pixB (s : Nat) (l : List Int) : Bool := rightB (nth l s % 256) (nth l (s + 1) % 256) (nth l (s + 2) % 256) (nth l (s + 3) % 256)
/-- a side of a tile, as a machine's number -/
def wrapI (x : Int) : Int := (x + 9223372036854775808) % 18446744073709551616 - 9223372036854775808
theorem wrapI_id {x : Int} (h : -9223372036854775808 ≤ x ∧ x < 9223372036854775808) : wrapI x = x := by unfold wrapI; omega
def sideB (n : Int) : Bool := decide (0 < n) && decide (n ≤ 4096)
def tileB (l : List Int) : Bool := sideB (wrapI (nth l 2 - nth l 0)) && sideB (wrapI (nth l 3 - nth l 1))

/-- what a kind's parameters are asked -/
def bnds (op : Int) : List Fn1 :=
  if op = 1 then insB 0 2 (-1048576) 1048576
  else if op = 2 ∨ op = 3 ∨ op = 4 then insB 0 2 0 255
  else if op = 5 then togB (insB 0 20 (-9223372036854775808) 9223372036854775807) rightM
  else if op = 6 then togB (insB 0 4 0 255) (pixB 0) ++ insB 4 4 (-1048576) 1048576
  else if op = 7 then insB 0 1 0 6
  else if op = 8 then insB 0 1 0 5
  else if op = 10 then togB (insB 0 4 (-1048576) 1048576) tileB
  else if op = 11 then insB 0 2 (-1048576) 1048576 ++ (insB 2 2 0 255 ++ togB (insB 4 4 0 255) (pixB 4))
  else if op = 12 then insB 0 4 (-1048576) 1048576
  else []
def parI (op : Int) : Nat :=
  if op = 1 ∨ op = 2 ∨ op = 3 ∨ op = 4 then 2 else if op = 5 then 20 else if op = 6 ∨ op = 11 then 8 else if op = 7 ∨ op = 8 then 1 else if op = 10 ∨ op = 12 then 4 else 0
theorem bnds_len (op : Int) : (bnds op).length = parI op := by
  unfold bnds parI
  by_cases h1 : op = 1
  · subst h1; simp [insB_len]
  by_cases h2 : op = 2
  · subst h2; simp [insB_len]
  by_cases h3 : op = 3
  · subst h3; simp [insB_len]
  by_cases h4 : op = 4
  · subst h4; simp [insB_len]
  by_cases h5 : op = 5
  · subst h5; simp [insB_len, togB_len]
  by_cases h6 : op = 6
  · subst h6; simp [insB_len, togB_len]
  by_cases h7 : op = 7
  · subst h7; simp [insB_len]
  by_cases h8 : op = 8
  · subst h8; simp [insB_len]
  by_cases h10 : op = 10
  · subst h10; simp [insB_len, togB_len]
  by_cases h11 : op = 11
  · subst h11; simp [insB_len, togB_len]
  by_cases h12 : op = 12
  · subst h12; simp [insB_len]
  simp [h1, h2, h3, h4, h5, h6, h7, h8, h10, h11, h12]
/-- the least and the most inputs -/
def leastI (op : Int) : Int := if op = 6 then 0 else if op = 7 ∨ op = 8 then 2 else if 1 ≤ op ∧ op ≤ 12 then 1 else 0
def mostI (op : Int) : Int := if op = 6 then 0 else if op = 7 ∨ op = 8 then 2 else if op = 9 then 8 else if 1 ≤ op ∧ op ≤ 12 then 1 else 0
def kindB (op : Int) : Bool := decide (1 ≤ op) && decide (op ≤ 12)
/-- an input that there is -/
def inpB (count : Int) (x : Int) : Bool := decide (x = -1) || (decide (0 ≤ x) && decide (x < count))
/-- what is wrong with a node -/
def oneI (op : Int) (l p : List Int) (count : Int) : Int :=
  if kindB op = false then 1
  else if (l.length : Int) < leastI op ∨ mostI op < (l.length : Int) ∨ p.length ≠ parI op then 7
  else if l.all (inpB count) = false then 8
  else if allB (bnds op) p = false then 3
  else 0
end Go.Proofs.YtamojciiacmjaaaDoor.Num
/- Which nodes are needed, and whether nodes lead round, by marks: plain lists. No Go in sight. -/
namespace Go.Proofs.YtamojciiacmjaaaDoor.Num

/-- is it marked? -/
def bt (D : List Bool) (i : Nat) : Bool := D.getD i false
theorem bt_get {D : List Bool} {i : Nat} (h : i < D.length) : D[i]? = some (bt D i) := by unfold bt; rw [List.getElem?_eq_getElem h]; simp [h]
theorem bt_set_eq {D : List Bool} {i : Nat} (h : i < D.length) (v : Bool) : bt (D.set i v) i = v := by unfold bt; simp [h]
theorem bt_set_ne {D : List Bool} {i j : Nat} (h : i ≠ j) (v : Bool) : bt (D.set i v) j = bt D j := by unfold bt; rw [List.getD_eq_getElem?_getD, List.getD_eq_getElem?_getD, List.getElem?_set_ne h]
theorem bt_none (n k : Nat) : bt (List.replicate n false) k = false := by
  unfold bt
  rw [List.getD_eq_getElem?_getD, List.getElem?_replicate]
  split <;> rfl
theorem bt_mono {D : List Bool} {i k : Nat} (h : bt D k = true) : bt (D.set i true) k = true := by
  by_cases e : i = k
  · subst e
    by_cases hl : i < D.length
    · exact bt_set_eq hl true
    · rw [List.set_eq_of_length_le (by omega)]; exact h
  · rw [bt_set_ne e]; exact h
theorem bt_ext {D E : List Bool} (h : D.length = E.length) (hb : ∀ k, k < D.length → bt D k = bt E k) : D = E := by
  apply List.ext_getElem? 
  intro k
  by_cases hk : k < D.length
  · rw [bt_get hk, bt_get (by omega), hb k hk]
  · rw [List.getElem?_eq_none (by omega), List.getElem?_eq_none (by omega)]

/-- it is Out, or an input of one that is -/
inductive Rch (G : List (List Int)) (out : Int) : Nat → Prop where
  | out (k : Nat) : out = (k : Int) → k < G.length → Rch G out k
  | step (i k : Nat) : Rch G out i → k < G.length → hasB G i k = true → Rch G out k
theorem rch_lt {G : List (List Int)} {out : Int} {k : Nat} (h : Rch G out k) : k < G.length := by
  cases h with
  | out _ h1 h2 => exact h2
  | step _ _ h1 h2 h3 => exact h2
/-- .. just those are marked -/
structure Nd (G : List (List Int)) (out : Int) (N : List Bool) : Prop where
  len : N.length = G.length
  iff : ∀ k, k < G.length → (bt N k = true ↔ Rch G out k)
theorem nd_uniq {G : List (List Int)} {out : Int} {N M : List Bool} (h : Nd G out N) (k : Nd G out M) : N = M := by
  refine bt_ext (h.len.trans k.len.symm) fun i hi => ?_
  rw [Bool.eq_iff_iff, h.iff i (by rw [← h.len]; exact hi), k.iff i (by rw [← h.len]; exact hi)]
theorem nd_of {G : List (List Int)} {out : Int} {N : List Bool} (hl : N.length = G.length) (h1 : ∀ k, k < G.length → bt N k = true → Rch G out k) (h2 : ∀ k : Nat, out = (k : Int) → k < G.length → bt N k = true)
    (h3 : ∀ i, i < G.length → bt N i = true → ∀ k, k < G.length → hasB G i k = true → bt N k = true) : Nd G out N := by
  refine ⟨hl, fun k hk => ⟨h1 k hk, fun h => ?_⟩⟩
  clear hk
  induction h with
  | out k e h => exact h2 k e h
  | step i k hi h hh ih => exact h3 i (rch_lt hi) ih k h hh
/-- a node is needed just if it is Out, or one that uses it is -/
theorem nd_used {G : List (List Int)} {out : Int} {N : List Bool} (h : Nd G out N) {i : Nat} (hi : i < G.length) : bt N i = true ↔ (out = (i : Int) ∨ ∃ u, u ∈ usesG G i ∧ bt N u = true) := by
  rw [h.iff i hi]
  constructor
  · intro hr
    cases hr with
    | out _ e _ => exact Or.inl e
    | step u _ hu _ hh => exact Or.inr ⟨u, mem_uses.2 ⟨rch_lt hu, hh⟩, (h.iff u (rch_lt hu)).2 hu⟩
  · rintro (e | ⟨u, hu, hb⟩)
    · exact Rch.out _ e hi
    · obtain ⟨h1, h2⟩ := mem_uses.1 hu
      exact Rch.step u i ((h.iff u h1).1 hb) hi h2

/-- how many aren't marked -/
def cntF (D : List Bool) : Nat := D.countP fun x => !x
theorem cntF_le (D : List Bool) : cntF D ≤ D.length := List.countP_le_length
theorem cntF_set : ∀ {D : List Bool} {i : Nat}, i < D.length → bt D i = false → cntF D = cntF (D.set i true) + 1
  | [], i, h, _ => by simp at h
  | x :: D, 0, h, hb => by
    have hx : x = false := hb
    subst hx
    unfold cntF
    simp
  | x :: D, i + 1, h, hb => by
    have ih := cntF_set (D := D) (i := i) (by simpa using h) hb
    unfold cntF at ih ⊢
    rw [List.set_cons_succ, List.countP_cons, List.countP_cons, ih]
    omega
theorem cntF_none (n : Nat) : cntF (List.replicate n false) = n := by unfold cntF; rw [List.countP_replicate]; simp

/-- by a list of those that wait: what holds but for the inputs of those that wait and of x -/
structure Na (G : List (List Int)) (out : Int) (x : Nat → Prop) (D : List Bool) (T : List Nat) : Prop where
  len : D.length = G.length
  sound : ∀ k, k < G.length → bt D k = true → Rch G out k
  wait : ∀ t, t ∈ T → t < G.length ∧ bt D t = true
  closed : ∀ i, i < G.length → bt D i = true → i ∉ T → ¬ x i → ∀ k, k < G.length → hasB G i k = true → bt D k = true
theorem na_start (G : List (List Int)) (out : Int) : Na G out (fun _ => False) (List.replicate G.length false) [] :=
  ⟨by simp, fun k _ h => (by rw [bt_none] at h; cases h), fun t h => (by cases h), fun i _ h => (by rw [bt_none] at h; cases h)⟩
theorem na_mark {G : List (List Int)} {out : Int} {x : Nat → Prop} {D : List Bool} {T : List Nat} (h : Na G out x D T) {k : Nat} (hk : k < G.length) (hr : Rch G out k) : Na G out x (D.set k true) (T ++ [k]) := by
  refine ⟨by simpa using h.len, fun i hi hb => ?_, fun t ht => ?_, fun i hi hb hT hx j hj hh => ?_⟩
  · by_cases e : k = i
    · subst e; exact hr
    · rw [bt_set_ne e] at hb; exact h.sound i hi hb
  · rcases List.mem_append.1 ht with ht | ht
    · exact ⟨(h.wait t ht).1, bt_mono (h.wait t ht).2⟩
    · simp at ht; subst ht; exact ⟨hk, bt_set_eq (by rw [h.len]; exact hk) true⟩
  · have hki : k ≠ i := fun e => by subst e; exact hT (by simp)
    rw [bt_set_ne hki] at hb
    exact bt_mono (h.closed i hi hb (fun hm => hT (List.mem_append_left _ hm)) hx j hj hh)
/-- the last one that waits is taken out -/
theorem na_pop {G : List (List Int)} {out : Int} {D : List Bool} {T : List Nat} {a : Nat} (h : Na G out (fun _ => False) D (T ++ [a])) : a < G.length ∧ bt D a = true ∧ Na G out (fun i => i = a) D T := by
  obtain ⟨h1, h2⟩ := h.wait a (by simp)
  refine ⟨h1, h2, h.len, h.sound, fun t ht => h.wait t (List.mem_append_left _ ht), fun i hi hb hT hx => ?_⟩
  refine h.closed i hi hb (fun hm => ?_) (fun hf => hf)
  rcases List.mem_append.1 hm with hm | hm
  · exact hT hm
  · simp at hm; exact hx hm
theorem na_done {G : List (List Int)} {out : Int} {D : List Bool} {T : List Nat} {a : Nat} (h : Na G out (fun i => i = a) D T) (hi : ∀ k, k < G.length → hasB G a k = true → bt D k = true) : Na G out (fun _ => False) D T := by
  refine ⟨h.len, h.sound, h.wait, fun i h1 h2 h3 _ k hk hh => ?_⟩
  by_cases e : i = a
  · subst e; exact hi k hk hh
  · exact h.closed i h1 h2 h3 e k hk hh
theorem na_end {G : List (List Int)} {out : Int} {D : List Bool} (h : Na G out (fun _ => False) D []) (ho : ∀ k : Nat, out = (k : Int) → k < G.length → bt D k = true) : Nd G out D :=
  nd_of h.len h.sound ho fun i hi hb => h.closed i hi hb (by simp) (fun hf => hf)

/-- round by round: all that is marked is needed -/
structure Nr (G : List (List Int)) (out : Int) (D : List Bool) : Prop where
  len : D.length = G.length
  sound : ∀ k, k < G.length → bt D k = true → Rch G out k
theorem nr_start (G : List (List Int)) (out : Int) : Nr G out (List.replicate G.length false) := ⟨by simp, fun k _ h => by rw [bt_none] at h; cases h⟩
theorem nr_set {G : List (List Int)} {out : Int} {D : List Bool} (h : Nr G out D) {k : Nat} {v : Bool} (hv : v = true → Rch G out k) : Nr G out (D.set k v) := by
  refine ⟨by simpa using h.len, fun i hi hb => ?_⟩
  by_cases e : k = i
  · subst e
    rw [bt_set_eq (by rw [h.len]; exact hi)] at hb
    exact hv hb
  · rw [bt_set_ne e] at hb; exact h.sound i hi hb
/-- all are marked, or so many at least -/
def Far (G : List (List Int)) (out : Int) (r : Nat) (D : List Bool) : Prop := (∀ k, Rch G out k → bt D k = true) ∨ cntF D + r ≤ G.length
theorem far_start (G : List (List Int)) (out : Int) : Far G out 0 (List.replicate G.length false) := Or.inr (by rw [cntF_none]; omega)
theorem cntF_mono : ∀ {D E : List Bool}, D.length = E.length → (∀ k, bt D k = true → bt E k = true) → cntF E ≤ cntF D ∧ (cntF E = cntF D → D = E)
  | [], [], _, _ => ⟨Nat.le_refl _, fun _ => rfl⟩
  | x :: D, y :: E, hl, h => by
    obtain ⟨h1, h2⟩ := cntF_mono (D := D) (E := E) (by simpa using hl) (fun k hk => h (k + 1) hk)
    have h0 : x = true → y = true := h 0
    unfold cntF at *
    rw [List.countP_cons, List.countP_cons]
    cases x <;> cases y <;> simp at h0 ⊢
    · exact ⟨h1, fun e => h2 e⟩
    · exact ⟨by omega, fun e => by omega⟩
    · exact ⟨h1, fun e => h2 e⟩
theorem far_round {G : List (List Int)} {out : Int} {r : Nat} {D E : List Bool} (h : Far G out r D) (hD : Nr G out D) (hE : Nr G out E) (hm : ∀ k, bt D k = true → bt E k = true)
    (ho : ∀ k : Nat, out = (k : Int) → k < G.length → bt E k = true) (hc : ∀ i, i < G.length → bt D i = true → ∀ k, k < G.length → hasB G i k = true → bt E k = true) : Far G out (r + 1) E := by
  rcases h with h | h
  · exact Or.inl fun k hk => hm k (h k hk)
  · obtain ⟨h1, h2⟩ := cntF_mono (hD.len.trans hE.len.symm) hm
    by_cases e : cntF E = cntF D
    · obtain rfl := h2 e
      exact Or.inl fun k hk => ((nd_of hD.len hD.sound ho hc).iff k (rch_lt hk)).2 hk
    · exact Or.inr (by omega)
theorem far_end {G : List (List Int)} {out : Int} {D : List Bool} (h : Far G out (G.length + 1) D) (hD : Nr G out D) : Nd G out D := by
  refine ⟨hD.len, fun k hk => ⟨hD.sound k hk, fun hr => ?_⟩⟩
  rcases h with h | h
  · exact h k hr
  · omega

/-- those that lead nowhere round, as far as they are struck -/
structure Rd (G : List (List Int)) (r : Nat) (D : List Bool) : Prop where
  len : D.length = G.length
  sound : ∀ k, k < G.length → bt D k = true → k ∈ ordG G
  some : ∀ j k, j < r → (ordG G)[j]? = some k → bt D k = true
/-- .. in a round, of the first i places -/
structure Re (G : List (List Int)) (r i : Nat) (D : List Bool) : Prop where
  d : Rd G r D
  more : ∀ k, k < i → (ordG G)[r]? = some k → bt D k = true
theorem rd_start (G : List (List Int)) : Rd G 0 (List.replicate G.length false) := ⟨by simp, fun k _ h => (by rw [bt_none] at h; cases h), fun j k h => (by omega)⟩
theorem re_start {G : List (List Int)} {r : Nat} {D : List Bool} (h : Rd G r D) : Re G r 0 D := ⟨h, fun k hk => by omega⟩
theorem re_end {G : List (List Int)} {r : Nat} {D : List Bool} (h : Re G r G.length D) : Rd G (r + 1) D := by
  refine ⟨h.d.len, h.d.sound, fun j k hj hk => ?_⟩
  by_cases e : j = r
  · subst e
    exact h.more k ((ordG_ord G).lt k (List.mem_of_getElem? hk)) hk
  · exact h.d.some j k (by omega) hk
theorem re_step {G : List (List Int)} {r i : Nat} {D : List Bool} {v : Bool} (h : Re G r i D) (hi : i < G.length) (hv : v = true ↔ (bt D i = true ∨ ∀ k, k < G.length → hasB G i k = true → bt D k = true)) : Re G r (i + 1) (D.set i v) := by
  have hmono : ∀ k, bt D k = true → bt (D.set i v) k = true := by
    intro k hk
    by_cases e : i = k
    · subst e
      rw [bt_set_eq (by rw [h.d.len]; exact hi)]
      exact hv.2 (Or.inl hk)
    · rw [bt_set_ne e]; exact hk
  refine ⟨⟨by simpa using h.d.len, fun k hk hb => ?_, fun j k hj hk => hmono k (h.d.some j k hj hk)⟩, fun k hk he => ?_⟩
  · by_cases e : i = k
    · subst e
      rw [bt_set_eq (by rw [h.d.len]; exact hi)] at hb
      rcases hv.1 hb with h1 | h1
      · exact h.d.sound i hi h1
      · exact ordG_closed hi fun k hk hh => h.d.sound k hk (h1 k hk hh)
    · rw [bt_set_ne e] at hb
      exact h.d.sound k hk hb
  · by_cases e : i = k
    · subst e
      rw [bt_set_eq (by rw [h.d.len]; exact hi)]
      refine hv.2 (Or.inr fun k hk hh => ?_)
      obtain ⟨hr, e⟩ := List.getElem?_eq_some_iff.1 he
      have := (ordG_ord G).ahead r hr k hk (by rw [List.getD_eq_getElem?_getD, he]; exact hh)
      obtain ⟨q, hq, rfl⟩ := List.getElem_of_mem this
      rw [List.length_take] at hq
      rw [List.getElem_take]
      exact h.d.some q _ (by omega) (List.getElem?_eq_getElem (by omega))
    · exact hmono k (h.more k (by omega) he)
theorem rd_all {G : List (List Int)} {D : List Bool} (h : Rd G G.length D) (k : Nat) (hk : k < G.length) : bt D k = true ↔ k ∈ ordG G := by
  refine ⟨h.sound k hk, fun hm => ?_⟩
  obtain ⟨j, hj, rfl⟩ := List.getElem_of_mem hm
  exact h.some j _ (by have := ord_len (ordG_ord G); omega) (List.getElem?_eq_getElem hj)
theorem rd_yes {G : List (List Int)} {D : List Bool} (h : Rd G G.length D) (ha : ∀ k, k < G.length → bt D k = true) : roundB G = false := round_iff.2 fun k hk => (rd_all h k hk).1 (ha k hk)
theorem rd_no {G : List (List Int)} {D : List Bool} (h : Rd G G.length D) {k : Nat} (hk : k < G.length) (ha : bt D k = false) : roundB G = true := by
  cases hr : roundB G with
  | true => rfl
  | false =>
    have := (rd_all h k hk).2 (round_iff.1 hr k hk)
    rw [ha] at this
    cases this
end Go.Proofs.YtamojciiacmjaaaDoor.Num
