/- The document's tables: what they hold, and what a kind asks for by them. -/
import Derived.Test.YtleclkjinkbebaaDoorAwake
import Derived.Test.YtleclkjinkbebaaDoorRows
import Derived.Lib.LaidTab
import Derived.LaidMore
namespace Go.Proofs.YtleclkjinkbebaaDoor
open Num Go.RowKit
set_option linter.unusedVariables false
set_option linter.unusedSimpArgs false

/-- what the three tables hold -/
structure Tabs (w : World) : Prop where
  l : ∀ i : Nat, i < 13 → w.cell? ⟨0, i, none⟩ = some (.int .i64 (leastI i))
  m : ∀ i : Nat, i < 13 → w.cell? ⟨1, i, none⟩ = some (.int .i64 (mostI i))
  p : ∀ i : Nat, i < 13 → w.cell? ⟨2, i, none⟩ = some (.int .i64 (parI i : Int))
theorem Tabs.below {w w' : World} (h : Tabs w) (hb : Below w.heap.size w w') : Tabs w' := ⟨fun i hi => cell_below hb (h.l i hi), fun i hi => cell_below hb (h.m i hi), fun i hi => cell_below hb (h.p i hi)⟩
theorem g0 : Tryd.prog.globalNamed "gouache/gouacheref12.least" = some 0 := by kernel_rfl
theorem g1 : Tryd.prog.globalNamed "gouache/gouacheref12.most" = some 1 := by kernel_rfl
theorem g2 : Tryd.prog.globalNamed "gouache/gouacheref12.params" = some 2 := by kernel_rfl
theorem gt0 : (Tryd.prog.globals[0]?).map (·.type) = some 42 := by kernel_rfl
theorem gt1 : (Tryd.prog.globals[1]?).map (·.type) = some 42 := by kernel_rfl
theorem gt2 : (Tryd.prog.globals[2]?).map (·.type) = some 42 := by kernel_rfl
theorem ct : Tryd.prog.cellsOf 42 = 13 := by kernel_rfl
theorem ce : Tryd.prog.cellsOf 3 = 1 := by kernel_rfl
abbrev laid3 : List (String × DataW Unit) := [("gouache/gouacheref12.least", Rows.laid_gouache_gouacheref12_least), ("gouache/gouacheref12.most", Rows.laid_gouache_gouacheref12_most), ("gouache/gouacheref12.params", Rows.laid_gouache_gouacheref12_params)]
def tL : List Int := [0, 1, 1, 1, 1, 1, 0, 2, 2, 1, 1, 1, 1]
def tM : List Int := [0, 1, 1, 1, 1, 1, 0, 2, 2, 8, 1, 1, 1]
def tP : List Int := [0, 2, 2, 2, 2, 20, 8, 1, 1, 0, 4, 8, 4]
theorem tabs_of {W : World} (h : laidMetH Tryd.prog laid3 W) : Tabs W := by
  rw [MakeChecks.laidMetH_plain _ _ _ (by kernel_rfl)] at h
  obtain ⟨ps, ⟨v0, t0, cs0, f0, p0, q0, hg0, ht0, hv0, hd0, ⟨v1, t1, cs1, f1, p1, q1, hg1, ht1, hv1, hd1, ⟨v2, t2, cs2, f2, p2, q2, hg2, ht2, hv2, hd2, _, _⟩, _⟩, _⟩, _, _⟩ := h
  obtain rfl := Option.some.inj (g0.symm.trans hg0)
  obtain rfl := Option.some.inj (g1.symm.trans hg1)
  obtain rfl := Option.some.inj (g2.symm.trans hg2)
  obtain rfl := Option.some.inj (gt0.symm.trans ht0)
  obtain rfl := Option.some.inj (gt1.symm.trans ht1)
  obtain rfl := Option.some.inj (gt2.symm.trans ht2)
  have e0 := Lib.cells_of_tab (zs := tL) Tryd.underlying42 Tryd.underlying3 ce ct hd0
  have e1 := Lib.cells_of_tab (zs := tM) Tryd.underlying42 Tryd.underlying3 ce ct hd1
  have e2 := Lib.cells_of_tab (zs := tP) Tryd.underlying42 Tryd.underlying3 ce ct hd2
  have h0 : Lib.TabIs Tryd.prog W "gouache/gouacheref12.least" .i64 tL := by unfold Lib.TabIs; rw [hv0, ← e0]
  have h1 : Lib.TabIs Tryd.prog W "gouache/gouacheref12.most" .i64 tM := by unfold Lib.TabIs; rw [hv1, ← e1]
  have h2 : Lib.TabIs Tryd.prog W "gouache/gouacheref12.params" .i64 tP := by unfold Lib.TabIs; rw [hv2, ← e2]
  refine ⟨fun i hi => ?_, fun i hi => ?_, fun i hi => ?_⟩
  · rw [h0.cell g0 i hi]
    have : ∀ i : Nat, i < 13 → tL.getD i 0 = leastI i := by decide
    rw [this i hi]
  · rw [h1.cell g1 i hi]
    have : ∀ i : Nat, i < 13 → tM.getD i 0 = mostI i := by decide
    rw [this i hi]
  · rw [h2.cell g2 i hi]
    have : ∀ i : Nat, i < 13 → tP.getD i 0 = (parI i : Int) := by decide
    rw [this i hi]

set_option maxRecDepth 100000 in
set_option maxHeartbeats 1000000 in
theorem refArity_any (op : Int) (w : World) (hT : Tabs w) : Calls Tryd.prog 7 #[.int .i64 op] w fun e w' => e = .returned (arI op) ∧ Below w.heap.size w w' := by
  by_cases h1 : op < 1
  · have eb : arI op = .tuple #[.int .i64 0, .int .i64 0, .int .i64 0, .bool false] := by
      have k2 : kindB op = false := by unfold kindB; rw [Bool.and_eq_false_iff, decide_eq_false_iff_not, decide_eq_false_iff_not]; omega
      have k1 : ¬ (1 ≤ op ∧ op ≤ 12) := by omega
      unfold arI
      rw [k2]
      unfold leastI mostI parI
      rw [if_neg (by omega), if_neg (by omega), if_neg (by omega), if_neg (by omega), if_neg (by omega), if_neg (by omega), if_neg (by omega), if_neg (by omega), if_neg (by omega), if_neg (by omega), if_neg (by omega)]
      rfl
    rw [eb]
    clear eb hT
    go_enter Tryd.func7, Tryd.ntmps7
    go_wp2
    exact bodyPost_ret (v := .tuple #[.int .i64 0, .int .i64 0, .int .i64 0, .bool false]) (by simp [results, Tryd.results7, go_sem]) rfl ⟨rfl, Below.refl _ _⟩
  by_cases h2 : 12 < op
  · have eb : arI op = .tuple #[.int .i64 0, .int .i64 0, .int .i64 0, .bool false] := by
      have k2 : kindB op = false := by unfold kindB; rw [Bool.and_eq_false_iff, decide_eq_false_iff_not, decide_eq_false_iff_not]; omega
      have k1 : ¬ (1 ≤ op ∧ op ≤ 12) := by omega
      unfold arI
      rw [k2]
      unfold leastI mostI parI
      rw [if_neg (by omega), if_neg (by omega), if_neg (by omega), if_neg (by omega), if_neg (by omega), if_neg (by omega), if_neg (by omega), if_neg (by omega), if_neg (by omega), if_neg (by omega), if_neg (by omega)]
      rfl
    rw [eb]
    clear eb hT
    go_enter Tryd.func7, Tryd.ntmps7
    go_wp2
    exact bodyPost_ret (v := .tuple #[.int .i64 0, .int .i64 0, .int .i64 0, .bool false]) (by simp [results, Tryd.results7, go_sem]) rfl ⟨rfl, Below.refl _ _⟩
  · obtain ⟨i, rfl⟩ : ∃ i : Nat, op = (i : Int) := ⟨op.toNat, by omega⟩
    have hi : i < 13 := by omega
    have c0 := hT.l i hi
    have c1 := hT.m i hi
    have c2 := hT.p i hi
    have k1 : (1 : Int) ≤ (i : Int) := by omega
    have k2 : (i : Int) ≤ 12 := by omega
    have k3 : (i : Int) < 13 := by omega
    have HA : Hid (arI (i : Int) = .tuple #[.int .i64 (leastI i), .int .i64 (mostI i), .int .i64 (parI i : Int), .bool true]) := by
      show arI (i : Int) = _
      unfold arI kindB
      rw [decide_eq_true k1, decide_eq_true k2]; rfl
    rw [HA.out]
    clear hT HA
    generalize leastI (i : Int) = a at *
    generalize mostI (i : Int) = d at *
    generalize parI (i : Int) = q at *
    go_enter Tryd.func7, Tryd.ntmps7
    go_wp2
    go_quiet (fail)
    go_wp2
    exact bodyPost_ret (v := .tuple #[.int .i64 a, .int .i64 d, .int .i64 (q : Int), .bool true]) (by simp [results, Tryd.results7, go_sem]) rfl ⟨rfl, below_drewN (Below.refl _ _) _⟩
end Go.Proofs.YtleclkjinkbebaaDoor
