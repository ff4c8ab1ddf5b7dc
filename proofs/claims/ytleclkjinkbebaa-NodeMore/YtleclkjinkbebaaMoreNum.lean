/- A filter that is taken is so with a node more behind: plain facts. -/
import Derived.Test.YtleclkjinkbebaaChkNum
namespace Go.Proofs.Ytleclkjinkbebaa
open Num Go.RowKit
set_option linter.unusedVariables false
set_option linter.unusedSimpArgs false

theorem inL_app {G : List (List Int)} {l : List Int} {i : Nat} (hi : i < G.length) : inL (G ++ [l]) i = inL G i := by
  unfold inL
  rw [List.getD_eq_getElem?_getD, List.getD_eq_getElem?_getD, List.getElem?_append_left hi]
theorem inL_last (G : List (List Int)) (l : List Int) : inL (G ++ [l]) G.length = l := by
  unfold inL
  rw [List.getD_eq_getElem?_getD, List.getElem?_append_right (Nat.le_refl _)]
  simp
/-- a node more that no other one has as an input, and that hasn't itself -/
theorem round_more {G : List (List Int)} {l : List Int} (h : roundB G = false) (hn : ∀ i, i < G.length → (G.length : Int) ∉ inL G i) (hl : (G.length : Int) ∉ l) : roundB (G ++ [l]) = false := by
  have hlen : (G ++ [l]).length = G.length + 1 := by simp
  have key : ∀ (j i : Nat), (ordG G)[j]? = some i → i ∈ ordG (G ++ [l]) := by
    intro j
    induction j using Nat.strongRecOn with
    | _ j ih =>
      intro i hj
      obtain ⟨hj1, hj2⟩ := List.getElem?_eq_some_iff.1 hj
      have hi : i < G.length := (ordG_ord G).lt i (List.mem_of_getElem? hj)
      refine ordG_closed (by omega) fun k hk hh => ?_
      have hk' : k < G.length := by
        by_cases e : k = G.length
        · subst e
          have := has_iff.1 hh
          rw [inL_app hi] at this
          exact absurd this (hn i hi)
        · omega
      have hh' : hasB G i k = true := by
        rw [has_iff]
        have := has_iff.1 hh
        rwa [inL_app hi] at this
      have hg : (ordG G).getD j 0 = i := by rw [List.getD_eq_getElem?_getD, hj]; rfl
      have ht := (ordG_ord G).ahead j hj1 k hk' (by rw [hg]; exact hh')
      obtain ⟨m, hm⟩ := List.getElem?_of_mem ht
      rw [List.getElem?_take] at hm
      split at hm
      · rename_i hmj
        exact ih m hmj k hm
      · cases hm
  have old : ∀ i, i < G.length → i ∈ ordG (G ++ [l]) := by
    intro i hi
    obtain ⟨j, hj⟩ := List.getElem?_of_mem (round_iff.1 h i hi)
    exact key j i hj
  rw [round_iff]
  intro i hi
  by_cases e : i = G.length
  · subst e
    refine ordG_closed hi fun k hk hh => ?_
    have hm := has_iff.1 hh
    rw [inL_last] at hm
    by_cases e : k = G.length
    · subst e; exact absurd hm hl
    · exact old k (by omega)
  · exact old i (by omega)
theorem inp_up {l : List Int} {n : Int} (h : l.all (inpB n) = true) : l.all (inpB (n + 1)) = true := by
  rw [List.all_eq_true] at h ⊢
  intro m hm
  have h1 := h m hm
  unfold inpB at h1 ⊢
  simp only [Bool.or_eq_true, Bool.and_eq_true, decide_eq_true_eq] at h1 ⊢
  omega
theorem one_up {op n : Int} {l p : List Int} (h : oneI op l p n = 0) : oneI op l p (n + 1) = 0 := by
  obtain ⟨h1, h2, h3, h4, h5, h6⟩ := one_ok h
  unfold oneI
  rw [if_neg (by rw [h1]; simp), if_neg (by omega), if_neg (by rw [inp_up h5]; simp), if_neg (by rw [h6]; simp)]
theorem first_app {count : Int} {u : Nv} : ∀ {L : List Nv}, (∀ v, v ∈ L → nodeI count v = 0) → firstI count (L ++ [u]) = nodeI count u
  | [], _ => by
    show (if nodeI count u = 0 then 0 else nodeI count u) = _
    split
    · rename_i h; exact h.symm
    · rfl
  | v :: L, h => by
    show (if nodeI count v = 0 then firstI count (L ++ [u]) else nodeI count v) = _
    rw [if_pos (h v (List.mem_cons_self ..))]
    exact first_app fun x hx => h x (List.mem_cons_of_mem _ hx)
theorem insL_app (L : List Nv) (u : Nv) : insL (L ++ [u]) = insL L ++ [u.l] := by unfold insL; rw [List.map_append]; rfl
/-- what is wrong with the greater filter is what is wrong with the node -/
theorem check_more {L : List Nv} {u : Nv} {out : Int} (h : checkI L out = 0) (hn : L.length ≤ 255) (hu : (L.length : Int) ∉ u.l) : checkI (L ++ [u]) out = oneI u.op u.l u.p ((L.length : Int) + 1) := by
  obtain ⟨h1, h2, h3, h4, h5⟩ := check_ok h
  have hlen : (L ++ [u]).length = L.length + 1 := by simp
  have hc : ((L ++ [u]).length : Int) = (L.length : Int) + 1 := by rw [hlen]; omega
  unfold checkI
  rw [if_neg (by omega), hc, first_app fun v hv => one_up (h3 v hv)]
  by_cases hz : nodeI ((L.length : Int) + 1) u = 0
  · rw [if_pos hz, if_pos (by omega)]
    have hr : roundB (insL (L ++ [u])) = false := by
      rw [insL_app]
      refine round_more h5 (fun i hi hc => ?_) (by rw [insL_len]; exact hu)
      rw [insL_len] at hi hc
      obtain ⟨v, hv⟩ : ∃ v, L[i]? = some v := ⟨_, List.getElem?_eq_getElem hi⟩
      rw [insL_at hv] at hc
      obtain ⟨-, -, -, -, k5, -⟩ := one_ok (h3 v (List.mem_of_getElem? hv))
      have := inp_mem k5 hc
      omega
    rw [hr]
    exact hz.symm
  · rw [if_neg hz]; rfl
end Go.Proofs.Ytleclkjinkbebaa
