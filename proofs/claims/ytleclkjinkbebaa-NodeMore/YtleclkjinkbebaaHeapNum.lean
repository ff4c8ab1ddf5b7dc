/- A heap of numbers: the least one on top. No Go in sight. -/
import Derived.Test.YtleclkjinkbebaaNum
namespace Go.Proofs.Ytleclkjinkbebaa.Num

/-- two places' numbers, the one for the other -/
def swapL (l : List Int) (i j : Nat) : List Int := (l.set i (nth l j)).set j (nth l i)
theorem swap_len (l : List Int) (i j : Nat) : (swapL l i j).length = l.length := by unfold swapL; simp
theorem nth_set_eq {l : List Int} {i : Nat} (h : i < l.length) (v : Int) : nth (l.set i v) i = v := by unfold nth; simp [h]
theorem nth_set_ne {l : List Int} {i j : Nat} (h : i ≠ j) (v : Int) : nth (l.set i v) j = nth l j := by unfold nth; rw [List.getD_eq_getElem?_getD, List.getD_eq_getElem?_getD, List.getElem?_set_ne h]
theorem swap_fst {l : List Int} {i j : Nat} (hi : i < l.length) (hj : j < l.length) : nth (swapL l i j) i = nth l j := by
  unfold swapL
  by_cases e : j = i
  · subst e; rw [nth_set_eq (by simpa using hj)]
  · rw [nth_set_ne e, nth_set_eq hi]
theorem swap_snd {l : List Int} {i j : Nat} (hj : j < l.length) : nth (swapL l i j) j = nth l i := by
  unfold swapL
  rw [nth_set_eq (by simpa using hj)]
theorem swap_else {l : List Int} {i j k : Nat} (hi : k ≠ i) (hj : k ≠ j) : nth (swapL l i j) k = nth l k := by
  unfold swapL
  rw [nth_set_ne (Ne.symm hj), nth_set_ne (Ne.symm hi)]
theorem nth_elem {l : List Int} {i : Nat} (h : i < l.length) : nth l i = l[i] := by unfold nth; simp [h]
theorem swap_perm {l : List Int} {i j : Nat} (hi : i < l.length) (hj : j < l.length) : (swapL l i j).Perm l := by
  unfold swapL
  rw [nth_elem hi, nth_elem hj]
  exact List.set_set_perm hi hj
theorem nth_mem {l : List Int} {i : Nat} (h : i < l.length) : nth l i ∈ l := by rw [nth_elem h]; exact List.getElem_mem h
theorem nth_take {l : List Int} {k i : Nat} (h : i < k) : nth (l.take k) i = nth l i := by unfold nth; rw [List.getD_eq_getElem?_getD, List.getD_eq_getElem?_getD, List.getElem?_take, if_pos h]
theorem nth_app {l m : List Int} {i : Nat} (h : i < l.length) : nth (l ++ m) i = nth l i := by unfold nth; rw [List.getD_eq_getElem?_getD, List.getD_eq_getElem?_getD, List.getElem?_append_left h]

/-- of the first n: each is no less than the one that it hangs on -/
def heapN (n : Nat) (l : List Int) : Prop := ∀ i, 0 < i → i < n → nth l ((i - 1) / 2) ≤ nth l i
theorem heap_least {n : Nat} {l : List Int} (h : heapN n l) : ∀ i, i < n → nth l 0 ≤ nth l i := by
  intro i
  induction i using Nat.strongRecOn with
  | _ i ih =>
    intro hi
    rcases Nat.eq_zero_or_pos i with h0 | h0
    · subst h0; exact Int.le_refl _
    · exact Int.le_trans (ih ((i - 1) / 2) (by omega) (by omega)) (h i h0 hi)

/-- all is right but at j, upward -/
def upI (n : Nat) (l : List Int) (j : Nat) : Prop := (∀ i, 0 < i → i < n → i ≠ j → nth l ((i - 1) / 2) ≤ nth l i) ∧ (∀ i, 0 < i → i < n → (i - 1) / 2 = j → 0 < j → nth l ((j - 1) / 2) ≤ nth l i)
theorem up_start {n : Nat} {l : List Int} (h : heapN n l) (hl : l.length = n) (v : Int) : upI (n + 1) (l ++ [v]) n := by
  refine ⟨fun i h0 h1 h2 => ?_, fun i h0 h1 h2 h3 => by omega⟩
  rw [nth_app (by omega), nth_app (by omega)]
  exact h i h0 (by omega)
theorem up_top {n : Nat} {l : List Int} (h : upI n l 0) : heapN n l := fun i h0 h1 => h.1 i h0 h1 (by omega)
theorem up_end {n j : Nat} {l : List Int} (h : upI n l j) (hle : nth l ((j - 1) / 2) ≤ nth l j) : heapN n l := by
  intro i h0 h1
  by_cases e : i = j
  · subst e; exact hle
  · exact h.1 i h0 h1 e
theorem up_step {n j : Nat} {l : List Int} (h : upI n l j) (hn : n ≤ l.length) (h0 : 0 < j) (h1 : j < n) (hlt : nth l j < nth l ((j - 1) / 2)) : upI n (swapL l ((j - 1) / 2) j) ((j - 1) / 2) := by
  have hp : (j - 1) / 2 < j := by omega
  generalize hq : (j - 1) / 2 = q at *
  have hqj : q ≠ j := by omega
  refine ⟨fun i i0 i1 i2 => ?_, fun i i0 i1 i2 i3 => ?_⟩
  · by_cases e : i = j
    · subst e
      rw [hq, swap_fst (by omega) (by omega), swap_snd (by omega)]
      omega
    · have hi := h.1 i i0 i1 e
      by_cases e1 : (i - 1) / 2 = q
      · rw [e1, swap_fst (by omega) (by omega), swap_else i2 e]
        rw [e1] at hi
        omega
      · by_cases e2 : (i - 1) / 2 = j
        · rw [e2, swap_snd (by omega), swap_else i2 e]
          have hb := h.2 i i0 i1 e2 h0
          rw [hq] at hb
          exact hb
        · rw [swap_else e1 e2, swap_else i2 e]
          exact hi
  · have hqq : (q - 1) / 2 ≠ q := by omega
    have hqj' : (q - 1) / 2 ≠ j := by omega
    rw [swap_else hqq hqj']
    have hu := h.1 q (by omega) (by omega) hqj
    by_cases e : i = j
    · subst e
      rw [swap_snd (by omega)]
      exact hu
    · rw [swap_else (by omega) e]
      have := h.1 i i0 i1 e
      rw [i2] at this
      omega

/-- all is right but below i, downward -/
def downI (n : Nat) (l : List Int) (i : Nat) : Prop := (∀ c, 0 < c → c < n → (c - 1) / 2 ≠ i → nth l ((c - 1) / 2) ≤ nth l c) ∧ (∀ c, 0 < c → c < n → (c - 1) / 2 = i → 0 < i → nth l ((i - 1) / 2) ≤ nth l c)
theorem down_start {n : Nat} {l : List Int} (h : heapN (n + 1) l) : downI n (swapL l 0 n) 0 := by
  refine ⟨fun c h0 h1 h2 => ?_, fun c h0 h1 h2 h3 => by omega⟩
  rw [swap_else (by omega) (by omega), swap_else (by omega) (by omega)]
  exact h c h0 (by omega)
theorem down_leaf {n i : Nat} {l : List Int} (h : downI n l i) (hi : n ≤ 2 * i + 1) : heapN n l := by
  intro c h0 h1
  exact h.1 c h0 h1 (by omega)
/-- the lesser one of those below -/
def lesser (n : Nat) (l : List Int) (i j : Nat) : Prop := 0 < j ∧ j < n ∧ (j - 1) / 2 = i ∧ ∀ c, 0 < c → c < n → (c - 1) / 2 = i → nth l j ≤ nth l c
theorem lesser_one {n i : Nat} {l : List Int} (h1 : 2 * i + 1 < n) (h2 : ¬ (2 * i + 2 < n)) : lesser n l i (2 * i + 1) :=
  ⟨by omega, h1, by omega, fun c c0 c1 c2 => by
    have : c = 2 * i + 1 := by omega
    subst this; exact Int.le_refl _⟩
theorem lesser_snd {n i : Nat} {l : List Int} (h2 : 2 * i + 2 < n) (hlt : nth l (2 * i + 2) < nth l (2 * i + 1)) : lesser n l i (2 * i + 2) :=
  ⟨by omega, h2, by omega, fun c c0 c1 c2 => by
    rcases (by omega : c = 2 * i + 1 ∨ c = 2 * i + 2) with e | e
    · subst e; omega
    · subst e; exact Int.le_refl _⟩
theorem lesser_fst {n i : Nat} {l : List Int} (h2 : 2 * i + 2 < n) (hlt : ¬ (nth l (2 * i + 2) < nth l (2 * i + 1))) : lesser n l i (2 * i + 1) :=
  ⟨by omega, by omega, by omega, fun c c0 c1 c2 => by
    rcases (by omega : c = 2 * i + 1 ∨ c = 2 * i + 2) with e | e
    · subst e; exact Int.le_refl _
    · subst e; omega⟩
theorem down_end {n i j : Nat} {l : List Int} (h : downI n l i) (hj : lesser n l i j) (hle : ¬ (nth l j < nth l i)) : heapN n l := by
  intro c h0 h1
  by_cases e : (c - 1) / 2 = i
  · have := hj.2.2.2 c h0 h1 e
    rw [e]; omega
  · exact h.1 c h0 h1 e
theorem down_step {n i j : Nat} {l : List Int} (h : downI n l i) (hn : n ≤ l.length) (hj : lesser n l i j) (hlt : nth l j < nth l i) : downI n (swapL l i j) j := by
  obtain ⟨j0, j1, j2, j3⟩ := hj
  have hij : i < j := by omega
  refine ⟨fun c c0 c1 c2 => ?_, fun c c0 c1 c2 c3 => ?_⟩
  · by_cases e : c = j
    · subst e
      rw [j2, swap_fst (by omega) (by omega), swap_snd (by omega)]
      omega
    · by_cases e1 : (c - 1) / 2 = i
      · rw [e1, swap_fst (by omega) (by omega), swap_else (by omega) e]
        exact j3 c c0 c1 e1
      · have hc := h.1 c c0 c1 e1
        by_cases e2 : c = i
        · subst e2
          rw [swap_fst (by omega) (by omega), swap_else (by omega) c2]
          exact h.2 j j0 j1 j2 c0
        · rw [swap_else e1 c2, swap_else e2 e]
          exact hc
  · have hc := h.1 c c0 c1 (by omega)
    rw [c2] at hc
    rw [j2, swap_fst (by omega) (by omega), swap_else (by omega) (by omega)]
    exact hc
/-- what lies beyond n stays -/
theorem swap_last {l : List Int} {i j n : Nat} (hi : i < n) (hj : j < n) : nth (swapL l i j) n = nth l n := swap_else (by omega) (by omega)
theorem heap_take {n : Nat} {l : List Int} (h : heapN n l) : heapN n (l.take n) := by
  intro i h0 h1
  rw [nth_take (by omega), nth_take h1]
  exact h i h0 h1
theorem take_last {l : List Int} {n : Nat} (hl : l.length = n + 1) : l.take n ++ [nth l n] = l := by
  rw [nth_elem (by omega), ← List.take_succ_eq_append_getElem (by omega), List.take_of_length_le (by omega)]
end Go.Proofs.Ytleclkjinkbebaa.Num
