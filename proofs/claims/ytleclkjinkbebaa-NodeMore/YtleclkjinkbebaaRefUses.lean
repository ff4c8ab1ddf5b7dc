/- Who uses whom, by the document: the contract. -/
import Derived.Test.YtleclkjinkbebaaFams
namespace Go.Proofs.Ytleclkjinkbebaa
open Num Go.RowKit
set_option linter.unusedVariables false
set_option linter.unusedSimpArgs false
attribute [local go_sem ↓] run_app
attribute [local go_sem] lenV_slice

/-- the first so many that have it as an input -/
def usesF (G : List (List Int)) (k i : Nat) : List Nat := (List.range k).filter fun a => hasB G a i
theorem usesF_yes {G : List (List Int)} {k i : Nat} (h : hasB G k i = true) : castL (usesF G (k + 1) i) = castL (usesF G k i) ++ [(k : Int)] := by
  unfold usesF
  rw [List.range_succ, List.filter_append, castL_app]
  simp [h, castL]
theorem usesF_no {G : List (List Int)} {k i : Nat} (h : hasB G k i = false) : usesF G (k + 1) i = usesF G k i := by
  unfold usesF
  rw [List.range_succ, List.filter_append]
  simp [h]
theorem has_c {G : List (List Int)} {k i : Nat} {v : Bool} (h : hasB G k i = v) : (inL G k).contains (i : Int) = v := h
theorem usesF_len (G : List (List Int)) (k i : Nat) : (castL (usesF G k i)).length ≤ k := by
  rw [castL_len]
  unfold usesF
  have := List.length_filter_le (fun a => hasB G a i) (List.range k)
  rw [List.length_range] at this
  exact this
theorem usesU_step {G : List (List Int)} {V : List Lv} {i : Nat} (h : V.map Lv.l = ((List.range i).map (usesG G)).map castL) (v : Lv) (hv : v.l = castL (usesF G G.length i)) : (V ++ [v]).map Lv.l = ((List.range (i + 1)).map (usesG G)).map castL := by
  rw [List.range_succ, List.map_append, List.map_append, List.map_append, h]
  congr 1
  simp [hv, usesF, usesG]
theorem app_wide {sz B lo : Nat} {ts : Array TypeId} {ty : TypeId} {w : World} {o : Obj} {ao : Option Addr} {n c b : Nat} {cs : List Value} {x : Value} {m : Nat} {news : List Value} {b' off' : Nat} (h : App sz B ts ty (w.alloc o) ao n c b cs x m news b' off') (hl : lo ≤ w.heap.size) (hB : lo ≤ B) : Below lo w (apW Try.prog ts ty (w.alloc o) (.slice ao n c) x) :=
  ((Below.refl lo w).alloc hl o).trans (h.below.mono hB)

end Go.Proofs.Ytleclkjinkbebaa
