import Derived.Test.YtamojciiacmjaaaDoorMemA
import Derived.Test.YtamojciiacmjaaaDoorHeapA
import Derived.Deep.RegionHeld3
/- What the laws stand on. -/
/- What a filter is that is taken, as plain facts. -/
namespace Go.Proofs.YtamojciiacmjaaaDoor
open Num Go.RowKit
set_option linter.unusedVariables false
set_option linter.unusedSimpArgs false

theorem if_zero {p : Prop} [Decidable p] {k x : Int} (hk : k ≠ 0) (h : (if p then k else x) = 0) : ¬ p ∧ x = 0 := by
  by_cases hp : p
  · rw [if_pos hp] at h; exact absurd h hk
  · rw [if_neg hp] at h; exact ⟨hp, h⟩
theorem one_ok {op count : Int} {l p : List Int} (h : oneI op l p count = 0) : kindB op = true ∧ leastI op ≤ (l.length : Int) ∧ (l.length : Int) ≤ mostI op ∧ p.length = parI op ∧ l.all (inpB count) = true ∧ allB (bnds op) p = true := by
  unfold oneI at h
  obtain ⟨h1, h⟩ := if_zero (by decide) h
  obtain ⟨h2, h⟩ := if_zero (by decide) h
  obtain ⟨h3, h⟩ := if_zero (by decide) h
  obtain ⟨h4, -⟩ := if_zero (by decide) h
  refine ⟨by simpa using h1, ?_, ?_, ?_, by simpa using h3, by simpa using h4⟩
  · exact Int.not_lt.1 fun hc => h2 (Or.inl hc)
  · exact Int.not_lt.1 fun hc => h2 (Or.inr (Or.inl hc))
  · exact Decidable.byContradiction fun hc => h2 (Or.inr (Or.inr hc))
theorem first_ok {count : Int} : ∀ {L : List Nv}, firstI count L = 0 → ∀ v, v ∈ L → nodeI count v = 0
  | [], _, v, hv => by cases hv
  | u :: L, h, v, hv => by
    unfold firstI at h
    by_cases hu : nodeI count u = 0
    · rw [if_pos hu] at h
      rcases List.mem_cons.1 hv with rfl | hv
      · exact hu
      · exact first_ok h v hv
    · rw [if_neg hu] at h; exact absurd h hu
theorem first_all {count : Int} : ∀ {L : List Nv}, (∀ v, v ∈ L → nodeI count v = 0) → firstI count L = 0
  | [], _ => rfl
  | u :: L, h => by
    unfold firstI
    rw [if_pos (h u (List.mem_cons_self ..))]
    exact first_all fun v hv => h v (List.mem_cons_of_mem _ hv)
theorem check_ok {L : List Nv} {out : Int} (h : checkI L out = 0) : 0 < L.length ∧ L.length ≤ 256 ∧ (∀ v, v ∈ L → nodeI (L.length : Int) v = 0) ∧ (0 ≤ out ∧ out < (L.length : Int)) ∧ roundB (insL L) = false := by
  unfold checkI at h
  obtain ⟨h1, h⟩ := if_zero (by decide) h
  by_cases hf : firstI (L.length : Int) L = 0
  · rw [if_pos hf] at h
    by_cases ho : 0 ≤ out ∧ out < (L.length : Int)
    · rw [if_pos ho] at h
      obtain ⟨h2, -⟩ := if_zero (by decide) h
      exact ⟨by omega, by omega, first_ok hf, ho, by simpa using h2⟩
    · rw [if_neg ho] at h; exact absurd h (by decide)
  · rw [if_neg hf] at h; exact absurd h hf
/-- no node has itself as an input -/
theorem no_self {G : List (List Int)} (h : roundB G = false) {i : Nat} (hi : i < G.length) : (i : Int) ∉ inL G i := by
  intro hc
  have hm := round_iff.1 h i hi
  obtain ⟨j, hj⟩ := List.getElem?_of_mem hm
  obtain ⟨hj1, hj2⟩ := List.getElem?_eq_some_iff.1 hj
  have hg : (ordG G).getD j 0 = i := by rw [List.getD_eq_getElem?_getD, hj]; rfl
  have ht := (ordG_ord G).ahead j hj1 i hi (by rw [hg]; exact has_iff.2 hc)
  have hn := (ordG_ord G).nodup
  rw [← List.take_append_drop j (ordG G), List.nodup_append] at hn
  exact hn.2.2 i ht i (by rw [List.drop_eq_getElem_cons hj1, hj2]; exact List.mem_cons_self ..) rfl
theorem inp_mem {l : List Int} {count : Int} (h : l.all (inpB count) = true) {m : Int} (hm : m ∈ l) : m = -1 ∨ (0 ≤ m ∧ m < count) := by
  have := List.all_eq_true.1 h m hm
  unfold inpB at this
  simpa using this
end Go.Proofs.YtamojciiacmjaaaDoor
/- A filter in its block that stands while calls are made. -/
namespace Go.Proofs.YtamojciiacmjaaaDoor
open Num Go.RowKit
set_option linter.unusedVariables false
set_option linter.unusedSimpArgs false

/-- the filter's two cells stand, and nothing that was there is written -/
abbrev Sg (w : World) (ao : Option Addr) (n c : Nat) (out : Int) (w' : World) : Prop := (w'.cell? ⟨w.heap.size, 0, none⟩ = some (.slice ao n c) ∧ w'.cell? ⟨w.heap.size, 1, none⟩ = some (.int .i64 out)) ∧ Below w.heap.size w w'
section
variable {w : World} {ao : Option Addr} {n c : Nat} {out : Int} {w' : World}
theorem sg_drew (h : Sg w ao n c out w') : Sg w ao n c out w'.drew := ⟨h.1, h.2.drew⟩
theorem sg_below {w2 : World} (h : Sg w ao n c out w') (hb : Below w'.heap.size w' w2) : Sg w ao n c out w2 := ⟨⟨cell_below hb h.1.1, cell_below hb h.1.2⟩, via (w := w) h.2 hb⟩
theorem sg_new (w : World) (ao : Option Addr) (n c : Nat) (out : Int) (t : TypeId) : Sg w ao n c out (w.alloc (.cells #[.slice ao n c, .int .i64 out] t)) := ⟨⟨World.cell?_alloc_new w _ _ 0, World.cell?_alloc_new w _ _ 1⟩, (Below.refl _ _).alloc (Nat.le_refl _) _⟩
end
theorem dec_self (l : List Int) : decide (l = l) = true := decide_eq_true rfl
theorem alloc_low {w w1 : World} (h : Below w.heap.size w w1) (o : Obj) : Below w.heap.size w (w1.alloc o) := h.alloc h.size o
theorem few_l {n : Nat} {L : List Nv} (h : L.length = n) : (insL L).length = n := by rw [insL_len, h]
end Go.Proofs.YtamojciiacmjaaaDoor
