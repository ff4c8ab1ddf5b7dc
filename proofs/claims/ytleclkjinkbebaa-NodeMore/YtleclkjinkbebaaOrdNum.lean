/- The order of nodes by their inputs, those that are needed, and who uses whom, as plain lists. No Go in sight. -/
import Derived.Test.YtleclkjinkbebaaHeapNum
namespace Go.Proofs.Ytleclkjinkbebaa.Num

/-- a node's inputs, as they stand -/
def inL (G : List (List Int)) (i : Nat) : List Int := G.getD i []
/-- has a node another one as an input? -/
def hasB (G : List (List Int)) (i k : Nat) : Bool := (inL G i).contains (k : Int)
theorem has_iff {G : List (List Int)} {i k : Nat} : hasB G i k = true ↔ (k : Int) ∈ inL G i := by unfold hasB; simp

/-- may it come next? -/
def readyB (G : List (List Int)) (L : List Nat) (i : Nat) : Bool := !L.contains i && (List.range G.length).all fun k => !hasB G i k || L.contains k
def nextG (G : List (List Int)) (L : List Nat) : Option Nat := (List.range G.length).find? (readyB G L)
def ordF (G : List (List Int)) : Nat → List Nat → List Nat
  | 0, L => L
  | f + 1, L => match nextG G L with
    | none => L
    | some i => ordF G f (L ++ [i])
def ordG (G : List (List Int)) : List Nat := ordF G G.length []
/-- do nodes lead round? -/
def roundB (G : List (List Int)) : Bool := decide ((ordG G).length < G.length)

theorem ready_iff {G : List (List Int)} {L : List Nat} {i : Nat} : readyB G L i = true ↔ i ∉ L ∧ ∀ k, k < G.length → hasB G i k = true → k ∈ L := by
  unfold readyB
  simp only [Bool.and_eq_true, Bool.not_eq_true', List.all_eq_true, List.mem_range, Bool.or_eq_true, List.contains_eq_mem, decide_eq_true_eq, decide_eq_false_iff_not]
  refine and_congr Iff.rfl ⟨fun h k hk hh => ?_, fun h k hk => ?_⟩
  · rcases h k hk with h1 | h1
    · rw [hh] at h1; cases h1
    · exact h1
  · cases hh : hasB G i k with
    | false => exact Or.inl rfl
    | true => exact Or.inr (h k hk hh)
theorem next_some {G : List (List Int)} {L : List Nat} {i : Nat} : nextG G L = some i ↔ i < G.length ∧ readyB G L i = true ∧ ∀ j, j < i → readyB G L j = false := by
  unfold nextG
  rw [List.find?_range_eq_some]
  simp only [List.mem_range, Bool.not_eq_true']
  exact ⟨fun ⟨h1, h2, h3⟩ => ⟨h2, h1, h3⟩, fun ⟨h1, h2, h3⟩ => ⟨h2, h1, h3⟩⟩
theorem next_none {G : List (List Int)} {L : List Nat} : nextG G L = none ↔ ∀ i, i < G.length → readyB G L i = false := by
  unfold nextG
  rw [List.find?_eq_none]
  simp

theorem nodup_len : ∀ (n : Nat) {L : List Nat}, L.Nodup → (∀ i, i ∈ L → i < n) → L.length ≤ n
  | 0, L, hn, h => by
    cases L with
    | nil => simp
    | cons a l => have := h a (by simp); omega
  | n + 1, L, hn, h => by
    by_cases hm : n ∈ L
    · have h1 := nodup_len n (hn.erase n) (fun i hi => by
        have h2 := h i (List.mem_of_mem_erase hi)
        have h3 : i ≠ n := fun e => by subst e; exact hn.not_mem_erase hi
        omega)
      rw [List.length_erase_of_mem hm] at h1
      omega
    · have := nodup_len n hn (fun i hi => by
        have h2 := h i hi
        have h3 : i ≠ n := fun e => by subst e; exact hm hi
        omega)
      omega
/-- as many as there are: all are there -/
theorem nodup_all {n : Nat} {L : List Nat} (hn : L.Nodup) (h : ∀ i, i ∈ L → i < n) (hl : n ≤ L.length) : ∀ i, i < n → i ∈ L := by
  intro i hi
  by_cases hm : i ∈ L
  · exact hm
  · have := nodup_len n (L := i :: L) (List.nodup_cons.2 ⟨hm, hn⟩) (fun j hj => by
      rcases List.mem_cons.1 hj with e | e
      · subst e; exact hi
      · exact h j e)
    simp at this
    omega

/-- an order as far as it has come -/
structure Ord (G : List (List Int)) (L : List Nat) : Prop where
  nodup : L.Nodup
  lt : ∀ i, i ∈ L → i < G.length
  ins : ∀ i, i ∈ L → ∀ k, k < G.length → hasB G i k = true → k ∈ L
  ahead : ∀ j, j < L.length → ∀ k, k < G.length → hasB G (L.getD j 0) k = true → k ∈ L.take j
theorem ord_nil (G : List (List Int)) : Ord G [] := ⟨List.nodup_nil, fun i h => (by cases h), fun i h => (by cases h), fun j h => by simp at h⟩
theorem ord_snoc {G : List (List Int)} {L : List Nat} {i : Nat} (h : Ord G L) (hi : i < G.length) (hr : readyB G L i = true) : Ord G (L ++ [i]) := by
  obtain ⟨h1, h2⟩ := ready_iff.1 hr
  refine ⟨?_, fun j hj => ?_, fun j hj k hk hh => ?_, fun j hj k hk hh => ?_⟩
  · rw [List.nodup_append]
    refine ⟨h.nodup, by simp, fun a ha b hb => ?_⟩
    simp at hb
    subst hb
    exact fun e => h1 (e ▸ ha)
  · rcases List.mem_append.1 hj with e | e
    · exact h.lt j e
    · simp at e; omega
  · rcases List.mem_append.1 hj with e | e
    · exact List.mem_append_left _ (h.ins j e k hk hh)
    · simp at e; subst e; exact List.mem_append_left _ (h2 k hk hh)
  · rw [List.length_append, List.length_singleton] at hj
    by_cases e : j < L.length
    · rw [List.take_append_of_le_length (by omega)]
      refine h.ahead j e k hk ?_
      rw [← hh, List.getD_eq_getElem?_getD, List.getD_eq_getElem?_getD, List.getElem?_append_left e]
    · obtain rfl : j = L.length := by omega
      rw [List.take_append_of_le_length (by omega), List.take_length]
      refine h2 k hk ?_
      rw [← hh, List.getD_eq_getElem?_getD, List.getElem?_append_right (by omega)]
      simp
theorem ord_len {G : List (List Int)} {L : List Nat} (h : Ord G L) : L.length ≤ G.length := nodup_len _ h.nodup h.lt
theorem ord_room {G : List (List Int)} {L : List Nat} (h : Ord G L) {i : Nat} (hi : i < G.length) (hr : readyB G L i = true) : L.length < G.length := by
  have := ord_len (ord_snoc h hi hr)
  rw [List.length_append, List.length_singleton] at this
  omega

/-- .. which leads to the whole -/
def St (G : List (List Int)) (L : List Nat) : Prop := Ord G L ∧ ordF G (G.length - L.length) L = ordG G
theorem st_nil (G : List (List Int)) : St G [] := ⟨ord_nil G, rfl⟩
theorem st_step {G : List (List Int)} {L : List Nat} {i : Nat} (h : St G L) (hn : nextG G L = some i) : St G (L ++ [i]) := by
  obtain ⟨hi, hr, -⟩ := next_some.1 hn
  have hroom := ord_room h.1 hi hr
  refine ⟨ord_snoc h.1 hi hr, ?_⟩
  rw [← h.2, List.length_append, List.length_singleton, show G.length - L.length = (G.length - (L.length + 1)) + 1 by omega, ordF, hn]
theorem st_end {G : List (List Int)} {L : List Nat} (h : St G L) (hn : nextG G L = none) : L = ordG G := by
  rw [← h.2]
  cases G.length - L.length with
  | zero => rfl
  | succ m => rw [ordF, hn]
theorem st_full {G : List (List Int)} {L : List Nat} (h : St G L) (hn : G.length ≤ L.length) : L = ordG G := by
  rw [← h.2, show G.length - L.length = 0 by omega]
  rfl
theorem ordF_st {G : List (List Int)} : ∀ (f : Nat) {L : List Nat}, Ord G L → f = G.length - L.length → Ord G (ordF G f L) ∧ (nextG G (ordF G f L) = none ∨ G.length ≤ (ordF G f L).length)
  | 0, L, h, hf => ⟨h, Or.inr (by show G.length ≤ L.length; omega)⟩
  | f + 1, L, h, hf => by
    cases hn : nextG G L with
    | none =>
      rw [ordF, hn]
      exact ⟨h, Or.inl hn⟩
    | some i =>
      obtain ⟨hi, hr, -⟩ := next_some.1 hn
      rw [ordF, hn]
      exact ordF_st f (ord_snoc h hi hr) (by rw [List.length_append, List.length_singleton]; omega)
theorem ordG_ord (G : List (List Int)) : Ord G (ordG G) := (ordF_st G.length (ord_nil G) (by simp)).1
/-- what has all its inputs in the order is in it -/
theorem ordG_closed {G : List (List Int)} {i : Nat} (hi : i < G.length) (h : ∀ k, k < G.length → hasB G i k = true → k ∈ ordG G) : i ∈ ordG G := by
  have ho := ordG_ord G
  rcases (ordF_st G.length (ord_nil G) (by simp)).2 with h1 | h1
  · by_cases hm : i ∈ ordG G
    · exact hm
    · have := next_none.1 h1 i hi
      rw [show readyB G (ordF G G.length []) i = true from ready_iff.2 ⟨hm, h⟩] at this
      cases this
  · exact nodup_all ho.nodup ho.lt h1 i hi
theorem round_iff {G : List (List Int)} : roundB G = false ↔ ∀ i, i < G.length → i ∈ ordG G := by
  unfold roundB
  rw [decide_eq_false_iff_not]
  refine ⟨fun h => nodup_all (ordG_ord G).nodup (ordG_ord G).lt (by omega), fun h hlt => ?_⟩
  have : (List.range G.length).length ≤ (ordG G).length := by
    have : ∀ (n : Nat) (L : List Nat), L.Nodup → (∀ i, i < n → i ∈ L) → n ≤ L.length := by
      intro n
      induction n with
      | zero => intro L _ _; exact Nat.zero_le _
      | succ n ih =>
        intro L hL hn
        have h1 := ih (L.erase n) (hL.erase n) (fun i hi => (List.mem_erase_of_ne (by omega)).2 (hn i (by omega)))
        rw [List.length_erase_of_mem (hn n (by omega))] at h1
        have : 0 < L.length := List.length_pos_of_mem (hn n (by omega))
        omega
    rw [List.length_range]
    exact this _ _ (ordG_ord G).nodup h
  rw [List.length_range] at this
  omega
/-- with inputs left out no more leads round -/
theorem round_less {G F : List (List Int)} (hl : F.length = G.length) (h : ∀ i k, hasB F i k = true → hasB G i k = true) (hr : roundB G = false) : roundB F = false := by
  rw [round_iff] at hr ⊢
  have ho := ordG_ord G
  have key : ∀ j, j < (ordG G).length → (ordG G).getD j 0 ∈ ordG F := by
    intro j
    induction j using Nat.strongRecOn with
    | _ j ih =>
      intro hj
      have hm : (ordG G).getD j 0 ∈ ordG G := by
        rw [List.getD_eq_getElem?_getD, List.getElem?_eq_getElem hj]
        exact List.getElem_mem hj
      refine ordG_closed (by rw [hl]; exact ho.lt _ hm) fun k hk hh => ?_
      have hk' := ho.ahead j hj k (by omega) (h _ _ hh)
      obtain ⟨q, hq, rfl⟩ := List.getElem_of_mem hk'
      rw [List.length_take] at hq
      have := ih q (by omega) (by omega)
      rw [List.getD_eq_getElem?_getD, List.getElem?_eq_getElem (by omega)] at this
      simpa using this
  intro i hi
  obtain ⟨j, hj, rfl⟩ := List.getElem_of_mem (hr i (by omega))
  have := key j hj
  rw [List.getD_eq_getElem?_getD, List.getElem?_eq_getElem hj] at this
  exact this
end Go.Proofs.Ytleclkjinkbebaa.Num
