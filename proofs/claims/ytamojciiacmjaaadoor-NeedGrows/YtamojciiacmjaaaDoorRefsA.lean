import Derived.Test.YtamojciiacmjaaaDoorLawA
import Derived.Test.YtamojciiacmjaaaDoorRows
import Derived.Lib.LaidTab
import Derived.LaidMore
import Derived.Deep.RegionHeld3
import Derived.Test.YtamojciiacmjaaaDoorFamA
/- The document's tables: what they hold, and what a kind asks for by them. -/
namespace Go.Proofs.YtamojciiacmjaaaDoor
open Num Go.RowKit
set_option linter.unusedVariables false
set_option linter.unusedSimpArgs false

/-- what the three tables hold -/
structure Tabs (w : World) : Prop where
  l : ∀ i : Nat, i < 13 → w.cell? ⟨0, i, none⟩ = some (.int .i64 (leastI i))
  m : ∀ i : Nat, i < 13 → w.cell? ⟨1, i, none⟩ = some (.int .i64 (mostI i))
  p : ∀ i : Nat, i < 13 → w.cell? ⟨2, i, none⟩ = some (.int .i64 (parI i : Int))
theorem Tabs.below {w w' : World} (h : Tabs w) (hb : Below w.heap.size w w') : Tabs w' := ⟨fun i hi => cell_below hb (h.l i hi), fun i hi => cell_below hb (h.m i hi), fun i hi => cell_below hb (h.p i hi)⟩
theorem g0 : Tryd.prog.globalNamed "gouache/gouacheref12.least" = some 0 := by kernel_rfl
theorem g1 : Tryd.prog.globalNamed "gouache/gouacheref12.most" = some 1 := by kernel_rfl
theorem g2 : Tryd.prog.globalNamed "gouache/gouacheref12.params" = some 2 := by kernel_rfl
theorem gt0 : (Tryd.prog.globals[0]?).map (·.type) = some 70 := by kernel_rfl
theorem gt1 : (Tryd.prog.globals[1]?).map (·.type) = some 70 := by kernel_rfl
theorem gt2 : (Tryd.prog.globals[2]?).map (·.type) = some 70 := by kernel_rfl
theorem ct : Tryd.prog.cellsOf 70 = 13 := by kernel_rfl
theorem ce : Tryd.prog.cellsOf 3 = 1 := by kernel_rfl
abbrev laid3 : List (String × DataW Unit) := [("gouache/gouacheref12.least", Rows.laid_gouache_gouacheref12_least), ("gouache/gouacheref12.most", Rows.laid_gouache_gouacheref12_most), ("gouache/gouacheref12.params", Rows.laid_gouache_gouacheref12_params)]
def tL : List Int := [0, 1, 1, 1, 1, 1, 0, 2, 2, 1, 1, 1, 1]
def tM : List Int := [0, 1, 1, 1, 1, 1, 0, 2, 2, 8, 1, 1, 1]
def tP : List Int := [0, 2, 2, 2, 2, 20, 8, 1, 1, 0, 4, 8, 4]
theorem tabs_of {W : World} (h : laidMetH Tryd.prog laid3 W) : Tabs W := by
  rw [MakeChecks.laidMetH_plain _ _ _ (by kernel_rfl)] at h
  obtain ⟨ps, ⟨v0, t0, cs0, f0, p0, q0, hg0, ht0, hv0, hd0, ⟨v1, t1, cs1, f1, p1, q1, hg1, ht1, hv1, hd1, ⟨v2, t2, cs2, f2, p2, q2, hg2, ht2, hv2, hd2, _, _⟩, _⟩, _⟩, _, _⟩ := h
  obtain rfl := Option.some.inj (g0.symm.trans hg0)
  obtain rfl := Option.some.inj (g1.symm.trans hg1)
  obtain rfl := Option.some.inj (g2.symm.trans hg2)
  obtain rfl := Option.some.inj (gt0.symm.trans ht0)
  obtain rfl := Option.some.inj (gt1.symm.trans ht1)
  obtain rfl := Option.some.inj (gt2.symm.trans ht2)
  have e0 := Lib.cells_of_tab (zs := tL) Tryd.underlying70 Tryd.underlying3 ce ct hd0
  have e1 := Lib.cells_of_tab (zs := tM) Tryd.underlying70 Tryd.underlying3 ce ct hd1
  have e2 := Lib.cells_of_tab (zs := tP) Tryd.underlying70 Tryd.underlying3 ce ct hd2
  have h0 : Lib.TabIs Tryd.prog W "gouache/gouacheref12.least" .i64 tL := by unfold Lib.TabIs; rw [hv0, ← e0]
  have h1 : Lib.TabIs Tryd.prog W "gouache/gouacheref12.most" .i64 tM := by unfold Lib.TabIs; rw [hv1, ← e1]
  have h2 : Lib.TabIs Tryd.prog W "gouache/gouacheref12.params" .i64 tP := by unfold Lib.TabIs; rw [hv2, ← e2]
  refine ⟨fun i hi => ?_, fun i hi => ?_, fun i hi => ?_⟩
  · rw [h0.cell g0 i hi]
    have : ∀ i : Nat, i < 13 → tL.getD i 0 = leastI i := by decide
    rw [this i hi]
  · rw [h1.cell g1 i hi]
    have : ∀ i : Nat, i < 13 → tM.getD i 0 = mostI i := by decide
    rw [this i hi]
  · rw [h2.cell g2 i hi]
    have : ∀ i : Nat, i < 13 → tP.getD i 0 = (parI i : Int) := by decide
    rw [this i hi]

set_option maxRecDepth 100000 in
set_option maxHeartbeats 1000000 in
theorem refArity_any (op : Int) (w : World) (hT : Tabs w) : Calls Tryd.prog 22 #[.int .i64 op] w fun e w' => e = .returned (arI op) ∧ Below w.heap.size w w' := by
  by_cases h1 : op < 1
  · have eb : arI op = .tuple #[.int .i64 0, .int .i64 0, .int .i64 0, .bool false] := by
      have k2 : kindB op = false := by unfold kindB; rw [Bool.and_eq_false_iff, decide_eq_false_iff_not, decide_eq_false_iff_not]; omega
      have k1 : ¬ (1 ≤ op ∧ op ≤ 12) := by omega
      unfold arI
      rw [k2]
      unfold leastI mostI parI
      rw [if_neg (by omega), if_neg (by omega), if_neg (by omega), if_neg (by omega), if_neg (by omega), if_neg (by omega), if_neg (by omega), if_neg (by omega), if_neg (by omega), if_neg (by omega), if_neg (by omega)]
      rfl
    rw [eb]
    clear eb hT
    go_enter Tryd.func22, Tryd.ntmps22
    go_wp2
    exact bodyPost_ret (v := .tuple #[.int .i64 0, .int .i64 0, .int .i64 0, .bool false]) (by simp [results, Tryd.results22, go_sem]) rfl ⟨rfl, Below.refl _ _⟩
  by_cases h2 : 12 < op
  · have eb : arI op = .tuple #[.int .i64 0, .int .i64 0, .int .i64 0, .bool false] := by
      have k2 : kindB op = false := by unfold kindB; rw [Bool.and_eq_false_iff, decide_eq_false_iff_not, decide_eq_false_iff_not]; omega
      have k1 : ¬ (1 ≤ op ∧ op ≤ 12) := by omega
      unfold arI
      rw [k2]
      unfold leastI mostI parI
      rw [if_neg (by omega), if_neg (by omega), if_neg (by omega), if_neg (by omega), if_neg (by omega), if_neg (by omega), if_neg (by omega), if_neg (by omega), if_neg (by omega), if_neg (by omega), if_neg (by omega)]
      rfl
    rw [eb]
    clear eb hT
    go_enter Tryd.func22, Tryd.ntmps22
    go_wp2
    exact bodyPost_ret (v := .tuple #[.int .i64 0, .int .i64 0, .int .i64 0, .bool false]) (by simp [results, Tryd.results22, go_sem]) rfl ⟨rfl, Below.refl _ _⟩
  · obtain ⟨i, rfl⟩ : ∃ i : Nat, op = (i : Int) := ⟨op.toNat, by omega⟩
    have hi : i < 13 := by omega
    have c0 := hT.l i hi
    have c1 := hT.m i hi
    have c2 := hT.p i hi
    have k1 : (1 : Int) ≤ (i : Int) := by omega
    have k2 : (i : Int) ≤ 12 := by omega
    have k3 : (i : Int) < 13 := by omega
    have HA : Hid (arI (i : Int) = .tuple #[.int .i64 (leastI i), .int .i64 (mostI i), .int .i64 (parI i : Int), .bool true]) := by
      show arI (i : Int) = _
      unfold arI kindB
      rw [decide_eq_true k1, decide_eq_true k2]; rfl
    rw [HA.out]
    clear hT HA
    generalize leastI (i : Int) = a at *
    generalize mostI (i : Int) = d at *
    generalize parI (i : Int) = q at *
    go_enter Tryd.func22, Tryd.ntmps22
    go_wp2
    go_quiet (fail)
    go_wp2
    exact bodyPost_ret (v := .tuple #[.int .i64 a, .int .i64 d, .int .i64 (q : Int), .bool true]) (by simp [results, Tryd.results22, go_sem]) rfl ⟨rfl, below_drewN (Below.refl _ _) _⟩
end Go.Proofs.YtamojciiacmjaaaDoor
/- The document's small tests of parameters: contracts. -/
namespace Go.Proofs.YtamojciiacmjaaaDoor
open Num Go.RowKit
set_option linter.unusedVariables false
set_option linter.unusedSimpArgs false

theorem near_no {l : List Int} {s k t : Nat} {lo hi : Int} (h1 : k < t) (h : nth l (s + k) < lo ∨ hi < nth l (s + k)) : nearB l s t lo hi = false := by
  cases e : nearB l s t lo hi with
  | false => rfl
  | true => have := (nearB_iff l s t lo hi).1 e k h1; omega
set_option maxRecDepth 100000 in
set_option maxHeartbeats 1000000 in
theorem refNear_any (ao : Option Addr) (n c b off : Nat) (l : List Int) (s t : Nat) (lo hi : Int) (w : World) (h : Vi w ao n c b off l) (hst : s ≤ t) (htn : t ≤ n) :
    Calls Tryd.prog 23 #[.slice ao n c, .int .i64 (s : Int), .int .i64 (t : Int), .int .i64 lo, .int .i64 hi] w fun e w' => e = .returned (.bool (nearB l s (t - s) lo hi)) ∧ w' = w := by
  have hn := vz_small h
  have H := hid h
  clear h
  go_enter Tryd.func23, Tryd.ntmps23
  go_wp2
  go_loopg [11] (t - s) (fun g x11 wr => ∃ k : Nat, k ≤ t - s ∧ g = t - s - k ∧ x11 = .int .i64 ((s + k : Nat) : Int) ∧ w = wr ∧ nearB l s k lo hi = true)
  case atStart => exact ⟨0, Nat.zero_le _, rfl, rfl, rfl, rfl⟩
  case round =>
    obtain ⟨k, hk, rfl, rfl, rfl, hS⟩ := hrel
    have HS := hid hS
    clear hS
    by_cases hlt : k < t - s
    · have hlz : ((s + k : Nat) : Int) < (t : Int) := by omega
      have hln : ((s + k : Nat) : Int) < (n : Int) := by omega
      obtain ⟨rfl, c0⟩ := vi_nth' H.out (i := s + k) (by omega)
      obtain ⟨q, hq⟩ : ∃ q, q = s + k := ⟨_, rfl⟩
      have HQ := hid hq
      rw [← hq] at hlz hln c0 ⊢
      clear hq
      by_cases e1 : nth l q < lo
      · have HN : Hid (nearB l s (t - s) lo hi = false) := near_no hlt (Or.inl (by rw [← HQ.out]; exact e1))
        go_wp2
        go_ret
        exact ⟨ret_bool HN.out.symm, rfl⟩
      · by_cases e2 : hi < nth l q
        · have HN : Hid (nearB l s (t - s) lo hi = false) := near_no hlt (Or.inr (by rw [← HQ.out]; exact e2))
          go_wp2
          go_ret
          exact ⟨ret_bool HN.out.symm, rfl⟩
        · have HE := hid (And.intro e1 e2)
          go_wp2
          go_roundg (t - s - (k + 1))
          case measure => omega
          case rel => exact ⟨k + 1, hlt, rfl, by rw [HQ.out]; simp; omega, rfl, by rw [nearB_succ, HS.out, ← HQ.out]; unfold inB; have h1 := HE.out.1; have h2 := HE.out.2; simp; omega⟩
    · obtain rfl : k = t - s := by omega
      have hle : ¬ (((s + (t - s) : Nat) : Int) < (t : Int)) := by omega
      obtain ⟨q, hq⟩ : ∃ q, q = s + (t - s) := ⟨_, rfl⟩
      rw [← hq] at hle ⊢
      clear hq
      go_wp2
      go_ret
      exact ⟨ret_bool HS.out.symm, rfl⟩

set_option maxRecDepth 100000 in
set_option maxHeartbeats 1000000 in
theorem refTint_any (ao : Option Addr) (n c b off : Nat) (l : List Int) (w : World) (h : Vi w ao n c b off l) :
    Calls Tryd.prog 45 #[.slice ao n c] w fun e w' => e = .returned (.bool (rightM l)) ∧ Below w.heap.size w w' := by
  have hn := vz_small h
  have H : Hid (Vi w ao n c b off l ∧ l.length = n) := ⟨h, vi_len h⟩
  clear h
  go_enter Tryd.func45, Tryd.ntmps45
  go_wp2
  go_loopg [3] 21 (fun g i wr => ∃ k : Nat, k ≤ 21 ∧ k ≤ n ∧ g = 21 - k ∧ i = .int .i64 k ∧ Below w.heap.size w wr ∧ (l.drop k).all okI = l.all okI)
  case atStart => exact ⟨0, Nat.zero_le _, Nat.zero_le _, rfl, rfl, Below.refl _ _, rfl⟩
  case round =>
    obtain ⟨k, hk, hkn, rfl, rfl, hB, hS⟩ := hrel
    have HB := hid hB
    by_cases hlt : k < n
    · have hlz : (k : Int) < (n : Int) := by omega
      by_cases h21 : k < 21
      · have h21z : (k : Int) < 21 := by omega
        obtain ⟨m, hm⟩ : ∃ s, l[k]? = some s := ⟨_, List.getElem?_eq_getElem (by rw [H.out.2]; exact hlt)⟩
        rw [Num.all_step hm] at hS
        have HS := hid hS
        obtain ⟨rfl, h0⟩ := vi_at (H.out.1.below hB) hm
        clear hS hB hm
        by_cases e1 : m < -32768
        · go_wp2
          go_ret
          exact ⟨ret_bool (by rw [rightM_bad (by rw [← HS.out, ok_no (Or.inl e1)]; rfl)]), HB.out⟩
        · by_cases e2 : 32767 < m
          · go_wp2
            go_ret
            exact ⟨ret_bool (by rw [rightM_bad (by rw [← HS.out, ok_no (Or.inr e2)]; rfl)]), HB.out⟩
          · go_wp2
            go_roundg (21 - (k + 1))
            case measure => omega
            case rel => exact ⟨k + 1, h21, hlt, rfl, by simp, HB.out, by rw [← HS.out, ok_yes ⟨by omega, by omega⟩]; rfl⟩
      · obtain rfl : k = 21 := by omega
        have hne : ¬ ((n : Int) = 20) := by omega
        have E := rightM_len (l := l) (by rw [H.out.2]; omega)
        go_wp2
        go_ret
        exact ⟨ret_bool (by rw [E]; simp; omega), HB.out⟩
    · obtain rfl : n = k := by omega
      have hA : l.all okI = true := by rw [← hS, List.drop_eq_nil_of_le (by rw [H.out.2]; exact Nat.le_refl _)]; rfl
      have HE : Hid (rightM l = decide ((n : Int) = 20)) := by
        show rightM l = _
        rw [Bool.eq_iff_iff]
        unfold rightM
        rw [hA, H.out.2]
        simp
        omega
      go_wp2
      go_ret
      exact ⟨ret_bool (by rw [HE.out]; rfl), HB.out⟩

theorem rt_yes {r g b a : Int} (h1 : r ≤ a) (h2 : g ≤ a) (h3 : b ≤ a) : rightB r g b a = true := by simp [rightB, h1, h2, h3]
theorem rt_no {r g b a : Int} (h : ¬ (r ≤ a ∧ g ≤ a ∧ b ≤ a)) : rightB r g b a = false := by
  simp only [rightB, Bool.and_eq_false_iff, decide_eq_false_iff_not]; omega

theorem refTone0 (r g b a : Int) (w : World) (hr : 0 ≤ r ∧ r ≤ 255) (hg : 0 ≤ g ∧ g ≤ 255) (hb : 0 ≤ b ∧ b ≤ 255) (ha : 0 ≤ a ∧ a ≤ 255) :
    Calls Tryd.prog 65 #[.agg #[.int .u8 r, .int .u8 g, .int .u8 b, .int .u8 a]] w fun e w' => e = .returned (.bool (rightB r g b a)) ∧ ∃ (c : Array Value) (n : Nat), w' = (w.alloc (.cells c 90)).drewN n := by
  by_cases h1 : a < r
  · have e := rt_no (r := r) (g := g) (b := b) (a := a) (by omega)
    go_enter Tryd.func65, Tryd.ntmps65
    go_wp2
    refine wp_loop_rounds 1 ?_
    rw [rounds_succ]
    go_wp2
    go_quiet (fail)
    go_wp2
    go_ret
    exact ⟨ret_bool e.symm, _, _, by first | rfl | (simp only [World.drewN_drewN]; rfl)⟩
  by_cases h2 : a < g
  · have e := rt_no (r := r) (g := g) (b := b) (a := a) (by omega)
    go_enter Tryd.func65, Tryd.ntmps65
    go_wp2
    refine wp_loop_rounds 2 ?_
    rw [rounds_succ]
    go_wp2
    go_quiet (fail)
    go_wp2
    rw [rounds_succ]
    go_wp2
    go_quiet (fail)
    go_wp2
    go_ret
    exact ⟨ret_bool e.symm, _, _, by first | rfl | (simp only [World.drewN_drewN]; rfl)⟩
  by_cases h3 : a < b
  · have e := rt_no (r := r) (g := g) (b := b) (a := a) (by omega)
    go_enter Tryd.func65, Tryd.ntmps65
    go_wp2
    refine wp_loop_rounds 3 ?_
    rw [rounds_succ]
    go_wp2
    go_quiet (fail)
    go_wp2
    rw [rounds_succ]
    go_wp2
    go_quiet (fail)
    go_wp2
    rw [rounds_succ]
    go_wp2
    go_quiet (fail)
    go_wp2
    go_ret
    exact ⟨ret_bool e.symm, _, _, by first | rfl | (simp only [World.drewN_drewN]; rfl)⟩
  · have e := rt_yes (r := r) (g := g) (b := b) (a := a) (by omega) (by omega) (by omega)
    go_enter Tryd.func65, Tryd.ntmps65
    go_wp2
    refine wp_loop_rounds 4 ?_
    rw [rounds_succ]
    go_wp2
    go_quiet (fail)
    go_wp2
    rw [rounds_succ]
    go_wp2
    go_quiet (fail)
    go_wp2
    rw [rounds_succ]
    go_wp2
    go_quiet (fail)
    go_wp2
    rw [rounds_succ]
    go_wp2
    go_ret
    exact ⟨ret_bool e.symm, _, _, by first | rfl | (simp only [World.drewN_drewN]; rfl)⟩


theorem refTone_any (r g b a : Int) (w : World) (hr : 0 ≤ r ∧ r ≤ 255) (hg : 0 ≤ g ∧ g ≤ 255) (hb : 0 ≤ b ∧ b ≤ 255) (ha : 0 ≤ a ∧ a ≤ 255) :
    Calls Tryd.prog 65 #[.agg #[.int .u8 r, .int .u8 g, .int .u8 b, .int .u8 a]] w fun e w' => e = .returned (.bool (rightB r g b a)) ∧ Below w.heap.size w w' :=
  (refTone0 r g b a w hr hg hb ha).mono fun e w' ⟨he, c, k, hw⟩ => ⟨he, hw ▸ below_drewN ((Below.refl _ _).alloc (Nat.le_refl _) _) _⟩
end Go.Proofs.YtamojciiacmjaaaDoor
/- Whether parameters are within bounds, by the document: contracts. -/
namespace Go.Proofs.YtamojciiacmjaaaDoor
open Num Go.RowKit
set_option linter.unusedVariables false
set_option linter.unusedSimpArgs false

/-- near, of a part of a list that stands -/
structure NearAt (w0 : World) (ao : Option Addr) (n c : Nat) (S T lo hi : Int) (v : Bool) : Prop where
  call : ∀ W, Below w0.heap.size w0 W → Calls Tryd.prog 23 #[.slice ao n c, .int .i64 S, .int .i64 T, .int .i64 lo, .int .i64 hi] W fun e w' => e = .returned (.bool v) ∧ w' = W
theorem near_at {w0 : World} {ao : Option Addr} {n c b off : Nat} {l : List Int} (h : Vi w0 ao n c b off l) (s t : Nat) {S T : Int} (hS : S = (s : Int)) (hT : T = (t : Int)) (hst : s ≤ t) (htn : t ≤ n) (lo hi : Int) {v : Bool} (hv : nearB l s (t - s) lo hi = v) : NearAt w0 ao n c S T lo hi v := by
  subst hS hT hv
  exact ⟨fun W hb => refNear_any ao n c b off l s t lo hi W (h.below hb) hst htn⟩
theorem NearAt.quiet {w0 : World} {ao : Option Addr} {n c : Nat} {S T lo hi : Int} {v : Bool} (h : NearAt w0 ao n c S T lo hi v) (k : Nat) : Calls Tryd.prog 23 #[.slice ao n c, .int .i64 S, .int .i64 T, .int .i64 lo, .int .i64 hi] (w0.drewN k) fun e w' => e = .returned (.bool v) ∧ w' = w0.drewN k :=
  h.call _ (below_drewN (Below.refl _ _) k)
/-- four cells stand -/
abbrev S4 (w1 : World) (b1 o1 : Nat) (v1 : Value) (b2 o2 : Nat) (v2 : Value) (b3 o3 : Nat) (v3 : Value) (b4 o4 : Nat) (v4 : Value) (w' : World) : Prop := (w'.cell? ⟨b1, o1, none⟩ = some v1 ∧ w'.cell? ⟨b2, o2, none⟩ = some v2 ∧ w'.cell? ⟨b3, o3, none⟩ = some v3 ∧ w'.cell? ⟨b4, o4, none⟩ = some v4) ∧ Below w1.heap.size w1 w'
section
variable {w1 : World} {b1 o1 : Nat} {v1 : Value} {b2 o2 : Nat} {v2 : Value} {b3 o3 : Nat} {v3 : Value} {b4 o4 : Nat} {v4 : Value} {w' : World}
theorem s4_drew (h : S4 w1 b1 o1 v1 b2 o2 v2 b3 o3 v3 b4 o4 v4 w') : S4 w1 b1 o1 v1 b2 o2 v2 b3 o3 v3 b4 o4 v4 w'.drew := ⟨h.1, h.2.drew⟩
theorem s4_below {w2 : World} (h : S4 w1 b1 o1 v1 b2 o2 v2 b3 o3 v3 b4 o4 v4 w') (hb : Below w'.heap.size w' w2) : S4 w1 b1 o1 v1 b2 o2 v2 b3 o3 v3 b4 o4 v4 w2 :=
  ⟨⟨cell_below hb h.1.1, cell_below hb h.1.2.1, cell_below hb h.1.2.2.1, cell_below hb h.1.2.2.2⟩, via (w := w1) h.2 hb⟩
theorem near_s {ao : Option Addr} {n c : Nat} {S T lo hi : Int} {v : Bool} (h : NearAt w1 ao n c S T lo hi v) (hs : S4 w1 b1 o1 v1 b2 o2 v2 b3 o3 v3 b4 o4 v4 w') : Calls Tryd.prog 23 #[.slice ao n c, .int .i64 S, .int .i64 T, .int .i64 lo, .int .i64 hi] w' fun e w2 => e = .returned (.bool v) ∧ w2 = w' := h.call w' hs.2
theorem tone_s {r g b a : Int} {v : Bool} (hv : rightB r g b a = v) (hr : 0 ≤ r ∧ r ≤ 255) (hg : 0 ≤ g ∧ g ≤ 255) (hb : 0 ≤ b ∧ b ≤ 255) (ha : 0 ≤ a ∧ a ≤ 255) (hs : S4 w1 b1 o1 v1 b2 o2 v2 b3 o3 v3 b4 o4 v4 w') :
    Calls Tryd.prog 65 #[.agg #[.int .u8 r, .int .u8 g, .int .u8 b, .int .u8 a]] w' fun e w2 => e = .returned (.bool v) ∧ Below w'.heap.size w' w2 := by
  subst hv
  exact refTone_any r g b a w' hr hg hb ha
end

set_option maxRecDepth 100000 in
set_option maxHeartbeats 2000000 in
theorem refPixel_any (ao : Option Addr) (n c b off : Nat) (l : List Int) (s : Nat) (w : World) (h : Vi w ao n c b off l) (hs : s + 4 ≤ n) :
    Calls Tryd.prog 46 #[.slice ao n c, .int .i64 (s : Int)] w fun e w' => e = .returned (.bool (nearB l s 4 0 255 && pixB s l)) ∧ Below w.heap.size w w' := by
  have hn := vz_small h
  have hs4 : (s : Int) + 4 = ((s + 4 : Nat) : Int) := by omega
  rcases hv : nearB l s 4 0 255 with _ | _
  · have C := hid (near_at (v := false) h s (s + 4) rfl hs4 (by omega) hs 0 255 (by rw [show s + 4 - s = 4 by omega]; exact hv))
    clear h hv hs4
    have hs1 : (s : Int) + 4 ≤ 9223372036854775807 := by omega
    go_enter Tryd.func46, Tryd.ntmps46
    go_wp2
    go_quiet ((go_at_call 23; exact Calls.quiet_of_same (C.out.quiet _)))
    go_wp2
    go_ret
    exact ⟨rfl, below_drewN (Below.refl _ _) _⟩
  · have C := hid (near_at (v := true) h s (s + 4) rfl hs4 (by omega) hs 0 255 (by rw [show s + 4 - s = 4 by omega]; exact hv))
    obtain ⟨s1, e1⟩ : ∃ s1, s1 = s + 1 := ⟨_, rfl⟩
    obtain ⟨s2, e2⟩ : ∃ s2, s2 = s + 2 := ⟨_, rfl⟩
    obtain ⟨s3, e3⟩ : ∃ s3, s3 = s + 3 := ⟨_, rfl⟩
    obtain ⟨-, c0⟩ := vi_nth' h (i := s) (by omega)
    obtain ⟨-, c1⟩ := vi_nth' h (i := s1) (by omega)
    obtain ⟨-, c2⟩ := vi_nth' h (i := s2) (by omega)
    obtain ⟨rfl, c3⟩ := vi_nth' h (i := s3) (by omega)
    have z0 : (s : Int) < (n : Int) := by omega
    have z1 : (s1 : Int) < (n : Int) := by omega
    have z2 : (s2 : Int) < (n : Int) := by omega
    have z3 : (s3 : Int) < (n : Int) := by omega
    have hw1 : IntKind.i64.wrap ((s : Int) + 1) = (s1 : Int) := by rw [IntKind.wrap_i64]; omega
    have hw2 : IntKind.i64.wrap ((s : Int) + 2) = (s2 : Int) := by rw [IntKind.wrap_i64]; omega
    have hw3 : IntKind.i64.wrap ((s : Int) + 3) = (s3 : Int) := by rw [IntKind.wrap_i64]; omega
    have hw4 : IntKind.i64.wrap ((s : Int) + 4) = (s : Int) + 4 := by rw [IntKind.wrap_i64]; omega
    obtain ⟨x, hx⟩ : ∃ x, x = pixB s l := ⟨_, rfl⟩
    rw [← hx]
    unfold pixB at hx
    rw [← e1, ← e2, ← e3] at hx
    clear h hv hs4 e1 e2 e3
    generalize nth l s = v0 at *
    generalize nth l s1 = v1 at *
    generalize nth l s2 = v2 at *
    generalize nth l s3 = v3 at *
    have hu0 : IntKind.u8.wrap v0 = v0 % 256 := by rw [IntKind.wrap_u8]
    have hu1 : IntKind.u8.wrap v1 = v1 % 256 := by rw [IntKind.wrap_u8]
    have hu2 : IntKind.u8.wrap v2 = v2 % 256 := by rw [IntKind.wrap_u8]
    have hu3 : IntKind.u8.wrap v3 = v3 % 256 := by rw [IntKind.wrap_u8]
    have y0 : 0 ≤ v0 % 256 ∧ v0 % 256 ≤ 255 := by omega
    have y1 : 0 ≤ v1 % 256 ∧ v1 % 256 ≤ 255 := by omega
    have y2 : 0 ≤ v2 % 256 ∧ v2 % 256 ≤ 255 := by omega
    have y3 : 0 ≤ v3 % 256 ∧ v3 % 256 ≤ 255 := by omega
    have HX := hid hx.symm
    have HY := hid (And.intro y0 (And.intro y1 (And.intro y2 y3)))
    clear hx y0 y1 y2 y3
    have hS : S4 w b (off + s) (.int .i64 v0) b (off + s1) (.int .i64 v1) b (off + s2) (.int .i64 v2) b (off + s3) (.int .i64 v3) w := ⟨⟨c0, c1, c2, c3⟩, Below.refl _ _⟩
    clear c0 c1 c2 c3
    go_enter Tryd.func46, Tryd.ntmps46
    go_wp2
    go_region_held3 (fun w' => (w'.cell? ⟨b, off + s, none⟩ = some (.int .i64 v0) ∧ w'.cell? ⟨b, off + s1, none⟩ = some (.int .i64 v1) ∧ w'.cell? ⟨b, off + s2, none⟩ = some (.int .i64 v2) ∧ w'.cell? ⟨b, off + s3, none⟩ = some (.int .i64 v3)) ∧ Below w.heap.size w w') (repeat (first | with_reducible assumption | with_reducible refine s4_drew ?_ | with_reducible refine s4_below ?_ ‹_›)) ((first
      | (go_at_call 23; with_reducible refine Calls.mono (near_s C.out (by with_reducible assumption)) ?_; rintro e w2 ⟨rfl, hw⟩; replace hw := hw.symm; subst hw)
      | (go_at_call 65; with_reducible refine Calls.mono (tone_s HX.out HY.out.1 HY.out.2.1 HY.out.2.2.1 HY.out.2.2.2 (by with_reducible assumption)) ?_; rintro e w3 ⟨rfl, hb⟩)))
    rename_i hh
    have HH := hid hh
    clear hh hS
    go_wp2
    go_ret
    exact ⟨rfl, HH.out.2⟩
end Go.Proofs.YtamojciiacmjaaaDoor
/- Whether parameters are within bounds, by the document: the contract. -/
namespace Go.Proofs.YtamojciiacmjaaaDoor
open Num Go.RowKit
set_option linter.unusedVariables false
set_option linter.unusedSimpArgs false

theorem tint_near {l : List Int} (h : l.length = 20) : (nearB l 0 20 (-9223372036854775808) 9223372036854775807 && rightM l) = rightM l := by
  rcases hr : rightM l with _ | _
  · rw [Bool.and_false]
  · rw [Bool.and_true]
    unfold rightM at hr
    rw [Bool.and_eq_true, List.all_eq_true] at hr
    rw [nearB_iff]
    intro i hi
    have hm : nth l (0 + i) ∈ l := by
      rw [Nat.zero_add]
      exact List.mem_of_getElem? (nth_get (by omega))
    have := hr.2 _ hm
    unfold okI at this
    rw [Bool.and_eq_true, decide_eq_true_eq, decide_eq_true_eq] at this
    omega
theorem allB_tog' {fs : List Fn1} {g : Fn1} {l : List Int} (h : fs ≠ []) : allB (togB fs g) l = (allB fs l && g l) := allB_tog fs g l h
theorem bnds_5 {p : List Int} (h : p.length = 20) : allB (bnds 5) p = rightM p := by
  show allB (togB (insB 0 20 (-9223372036854775808) 9223372036854775807) rightM) p = _
  rw [allB_tog' (insB_ne' (by decide))]
  exact tint_near h
theorem bnds_6 (p : List Int) : allB (bnds 6) p = ((nearB p 0 4 0 255 && pixB 0 p) && nearB p 4 4 (-1048576) 1048576) := by
  show allB (togB (insB 0 4 0 255) (pixB 0) ++ insB 4 4 (-1048576) 1048576) p = _
  rw [allB_app, allB_tog' (insB_ne' (by decide))]; rfl
theorem bnds_10 (p : List Int) : allB (bnds 10) p = (nearB p 0 4 (-1048576) 1048576 && tileB p) := by
  show allB (togB (insB 0 4 (-1048576) 1048576) tileB) p = _
  rw [allB_tog' (insB_ne' (by decide))]; rfl
theorem bnds_11 (p : List Int) : allB (bnds 11) p = ((nearB p 0 2 (-1048576) 1048576 && nearB p 2 2 0 255) && (nearB p 4 4 0 255 && pixB 4 p)) := by
  show allB (insB 0 2 (-1048576) 1048576 ++ (insB 2 2 0 255 ++ togB (insB 4 4 0 255) (pixB 4))) p = _
  rw [allB_app, allB_app, allB_tog' (insB_ne' (by decide)), Bool.and_assoc]; rfl
theorem tile_in {v0 v1 v2 v3 : Int} (h0 : -1048576 ≤ v0 ∧ v0 ≤ 1048576) (h1 : -1048576 ≤ v1 ∧ v1 ≤ 1048576) (h2 : -1048576 ≤ v2 ∧ v2 ≤ 1048576) (h3 : -1048576 ≤ v3 ∧ v3 ≤ 1048576) :
    (sideB (wrapI (v2 - v0)) && sideB (wrapI (v3 - v1))) = (decide (v0 < v2) && decide (v1 < v3) && decide (v2 - v0 ≤ 4096) && decide (v3 - v1 ≤ 4096)) := by
  rw [wrapI_id (by omega), wrapI_id (by omega)]
  unfold sideB
  rw [Bool.eq_iff_iff]
  simp only [Bool.and_eq_true, decide_eq_true_eq]
  omega

set_option maxRecDepth 100000 in
set_option maxHeartbeats 8000000 in
theorem refBounds_any (op : Int) (ai : Option Addr) (ni ci : Nat) (ap : Option Addr) (np cp bp ob : Nat) (p : List Int) (w : World) (h : Vi w ap np cp bp ob p) (hn : np = parI op) :
    Calls Tryd.prog 24 #[.agg #[.int .i64 op, .slice ai ni ci, .slice ap np cp]] w fun e w' => e = .returned (.bool (allB (bnds op) p)) ∧ Below w.heap.size w w' := by
  have hb0 : Below w.heap.size w (w.alloc (.cells #[.int .i64 op, .slice ai ni ci, .slice ap np cp] 24)) := (Below.refl _ _).alloc (Nat.le_refl _) _
  have hV := h.below hb0
  have hpl := vi_len h
  have HB := hid hb0
  clear h hb0
  by_cases e1 : op = 1
  · subst e1
    have C := hid (near_at (v := allB (bnds 1) p) hV 0 2 (S := 0) (T := 2) rfl rfl (by decide) (by rw [hn]; decide) (-1048576) 1048576 rfl)
    clear hV hn
    go_enter Tryd.func24, Tryd.ntmps24
    go_wp2_with (go_at_call 23; with_reducible refine Calls.mono (C.out.call _ (Below.refl _ _)) ?_; rintro e w2 ⟨rfl, hw⟩; replace hw := hw.symm; subst hw)
    go_ret
    exact ⟨rfl, HB.out⟩
  by_cases e2 : op = 2
  · subst e2
    have C := hid (near_at (v := allB (bnds 2) p) hV 0 2 (S := 0) (T := 2) rfl rfl (by decide) (by rw [hn]; decide) (0) 255 rfl)
    clear hV hn
    go_enter Tryd.func24, Tryd.ntmps24
    go_wp2_with (go_at_call 23; with_reducible refine Calls.mono (C.out.call _ (Below.refl _ _)) ?_; rintro e w2 ⟨rfl, hw⟩; replace hw := hw.symm; subst hw)
    go_ret
    exact ⟨rfl, HB.out⟩
  by_cases e3 : op = 3
  · subst e3
    have C := hid (near_at (v := allB (bnds 3) p) hV 0 2 (S := 0) (T := 2) rfl rfl (by decide) (by rw [hn]; decide) (0) 255 rfl)
    clear hV hn
    go_enter Tryd.func24, Tryd.ntmps24
    go_wp2_with (go_at_call 23; with_reducible refine Calls.mono (C.out.call _ (Below.refl _ _)) ?_; rintro e w2 ⟨rfl, hw⟩; replace hw := hw.symm; subst hw)
    go_ret
    exact ⟨rfl, HB.out⟩
  by_cases e4 : op = 4
  · subst e4
    have C := hid (near_at (v := allB (bnds 4) p) hV 0 2 (S := 0) (T := 2) rfl rfl (by decide) (by rw [hn]; decide) (0) 255 rfl)
    clear hV hn
    go_enter Tryd.func24, Tryd.ntmps24
    go_wp2_with (go_at_call 23; with_reducible refine Calls.mono (C.out.call _ (Below.refl _ _)) ?_; rintro e w2 ⟨rfl, hw⟩; replace hw := hw.symm; subst hw)
    go_ret
    exact ⟨rfl, HB.out⟩
  by_cases e5 : op = 5
  · subst e5
    rw [bnds_5 (by rw [hpl, hn]; rfl)]
    have HV := hid hV
    clear hV hn
    go_enter Tryd.func24, Tryd.ntmps24
    go_wp2_with (go_at_call 45; with_reducible refine Calls.mono (refTint_any _ _ _ bp ob p _ HV.out) ?_; rintro e w2 ⟨rfl, hb⟩; have H2 := hid (via (w := w) HB.out hb); clear hb)
    go_ret
    exact ⟨rfl, H2.out⟩
  by_cases e6 : op = 6
  · subst e6
    rw [bnds_6]
    rcases hx : (nearB p 0 4 0 255 && pixB 0 p) with _ | _
    · have HP := hid (refPixel_any ap np cp bp ob p 0 _ hV (by rw [hn]; decide))
      rw [hx] at HP
      clear hV hn hx
      go_enter Tryd.func24, Tryd.ntmps24
      go_wp2_with (go_at_call 46; with_reducible refine Calls.mono HP.out ?_; rintro e w2 ⟨rfl, hb⟩; have H2 := hid (via (w := w) HB.out hb); clear hb)
      go_ret
      exact ⟨rfl, H2.out⟩
    · have HP := hid (refPixel_any ap np cp bp ob p 0 _ hV (by rw [hn]; decide))
      rw [hx] at HP
      have C := hid (near_at (v := nearB p 4 4 (-1048576) 1048576) hV 4 8 (S := 4) (T := 8) rfl rfl (by decide) (by rw [hn]; decide) (-1048576) 1048576 rfl)
      clear hV hn hx
      go_enter Tryd.func24, Tryd.ntmps24
      go_wp2_with (first
        | (go_at_call 46; with_reducible refine Calls.mono HP.out ?_; rintro e w2 ⟨rfl, hb⟩; have HB2 := hid hb; have H2 := hid (via (w := w) HB.out hb); clear hb)
        | (go_at_call 23; with_reducible refine Calls.mono (C.out.call _ HB2.out) ?_; rintro e w3 ⟨rfl, hw⟩; replace hw := hw.symm; subst hw))
      go_ret
      exact ⟨rfl, H2.out⟩
  by_cases e7 : op = 7
  · subst e7
    have C := hid (near_at (v := allB (bnds 7) p) hV 0 1 (S := 0) (T := 1) rfl rfl (by decide) (by rw [hn]; decide) (0) 6 rfl)
    clear hV hn
    go_enter Tryd.func24, Tryd.ntmps24
    go_wp2_with (go_at_call 23; with_reducible refine Calls.mono (C.out.call _ (Below.refl _ _)) ?_; rintro e w2 ⟨rfl, hw⟩; replace hw := hw.symm; subst hw)
    go_ret
    exact ⟨rfl, HB.out⟩
  by_cases e8 : op = 8
  · subst e8
    have C := hid (near_at (v := allB (bnds 8) p) hV 0 1 (S := 0) (T := 1) rfl rfl (by decide) (by rw [hn]; decide) (0) 5 rfl)
    clear hV hn
    go_enter Tryd.func24, Tryd.ntmps24
    go_wp2_with (go_at_call 23; with_reducible refine Calls.mono (C.out.call _ (Below.refl _ _)) ?_; rintro e w2 ⟨rfl, hw⟩; replace hw := hw.symm; subst hw)
    go_ret
    exact ⟨rfl, HB.out⟩
  by_cases e10 : op = 10
  · subst e10
    rw [bnds_10]
    rcases hx : nearB p 0 4 (-1048576) 1048576 with _ | _
    · have C := hid (near_at (v := false) hV 0 4 (S := 0) (T := 4) rfl rfl (by decide) (by rw [hn]; decide) (-1048576) 1048576 hx)
      clear hV hn hx
      go_enter Tryd.func24, Tryd.ntmps24
      go_wp2
      go_quiet ((go_at_call 23; exact Calls.quiet_of_same (C.out.quiet _)))
      go_wp2
      go_ret
      exact ⟨rfl, below_drewN HB.out _⟩
    · have C := hid (near_at (v := true) hV 0 4 (S := 0) (T := 4) rfl rfl (by decide) (by rw [hn]; decide) (-1048576) 1048576 hx)
      have hx2 := (nearB_iff p 0 4 (-1048576) 1048576).1 hx
      have i0 := hx2 0 (by decide)
      have i1 := hx2 1 (by decide)
      have i2 := hx2 2 (by decide)
      have i3 := hx2 3 (by decide)
      simp only [Nat.zero_add] at i0 i1 i2 i3
      have hnp : np = 4 := hn
      obtain ⟨-, c0⟩ := vi_nth' hV (i := 0) (by omega)
      obtain ⟨-, c1⟩ := vi_nth' hV (i := 1) (by omega)
      obtain ⟨-, c2⟩ := vi_nth' hV (i := 2) (by omega)
      obtain ⟨rfl, c3⟩ := vi_nth' hV (i := 3) (by omega)
      rw [Nat.add_zero] at c0
      have z0 : (0 : Int) < (np : Int) := by omega
      have y0 : 0 < np := by omega
      have z1 : (1 : Int) < (np : Int) := by omega
      have z2 : (2 : Int) < (np : Int) := by omega
      have z3 : (3 : Int) < (np : Int) := by omega
      have hT : (true && tileB p) = (decide (nth p 0 < nth p 2) && decide (nth p 1 < nth p 3) && decide (nth p 2 - nth p 0 ≤ 4096) && decide (nth p 3 - nth p 1 ≤ 4096)) := by
        rw [Bool.true_and]; unfold tileB; exact tile_in i0 i1 i2 i3
      rw [hT]
      clear hT hV hn hx hx2 hnp
      generalize nth p 0 = v0 at *
      generalize nth p 1 = v1 at *
      generalize nth p 2 = v2 at *
      generalize nth p 3 = v3 at *
      have hw0 : IntKind.i64.wrap (v2 - v0) = v2 - v0 := by rw [IntKind.wrap_i64]; omega
      have hw1 : IntKind.i64.wrap (v3 - v1) = v3 - v1 := by rw [IntKind.wrap_i64]; omega
      rcases d1 : decide (v0 < v2) with _ | _
      · go_enter Tryd.func24, Tryd.ntmps24
        go_wp2
        go_quiet ((go_at_call 23; exact Calls.quiet_of_same (C.out.quiet _)))
        go_wp2
        go_ret
        exact ⟨rfl, below_drewN HB.out _⟩
      rcases d2 : decide (v1 < v3) with _ | _
      · go_enter Tryd.func24, Tryd.ntmps24
        go_wp2
        go_quiet ((go_at_call 23; exact Calls.quiet_of_same (C.out.quiet _)))
        go_wp2
        go_ret
        exact ⟨rfl, below_drewN HB.out _⟩
      rcases d3 : decide (v2 - v0 ≤ 4096) with _ | _
      · go_enter Tryd.func24, Tryd.ntmps24
        go_wp2
        go_quiet ((go_at_call 23; exact Calls.quiet_of_same (C.out.quiet _)))
        go_wp2
        go_ret
        exact ⟨rfl, below_drewN HB.out _⟩
      rcases d4 : decide (v3 - v1 ≤ 4096) with _ | _
      · go_enter Tryd.func24, Tryd.ntmps24
        go_wp2
        go_quiet ((go_at_call 23; exact Calls.quiet_of_same (C.out.quiet _)))
        go_wp2
        go_ret
        exact ⟨rfl, below_drewN HB.out _⟩
      · go_enter Tryd.func24, Tryd.ntmps24
        go_wp2
        go_quiet ((go_at_call 23; exact Calls.quiet_of_same (C.out.quiet _)))
        go_wp2
        go_ret
        exact ⟨rfl, below_drewN HB.out _⟩
  by_cases e11 : op = 11
  · subst e11
    rw [bnds_11]
    have C1 := fun v hv => near_at (v := v) hV 0 2 (S := 0) (T := 2) rfl rfl (by decide) (by rw [hn]; decide) (-1048576) 1048576 hv
    have C2 := fun v hv => near_at (v := v) hV 2 4 (S := 2) (T := 4) rfl rfl (by decide) (by rw [hn]; decide) 0 255 hv
    have HP := hid (refPixel_any ap np cp bp ob p 4 _ hV (by rw [hn]; decide))
    rcases h1 : nearB p 0 2 (-1048576) 1048576 with _ | _
    · have D1 := hid (C1 _ h1)
      clear hV hn h1 C1 C2 HP
      go_enter Tryd.func24, Tryd.ntmps24
      go_wp2_with (go_at_call 23; with_reducible refine Calls.mono (D1.out.call _ (Below.refl _ _)) ?_; rintro e w2 ⟨rfl, hw⟩; replace hw := hw.symm; subst hw)
      go_ret
      exact ⟨rfl, HB.out⟩
    rcases h2 : nearB p 2 2 0 255 with _ | _
    · have D1 := hid (C1 _ h1)
      have D2 := hid (C2 _ h2)
      clear hV hn h1 h2 C1 C2 HP
      go_enter Tryd.func24, Tryd.ntmps24
      go_wp2_with (first
        | (go_at_call 23; with_reducible refine Calls.mono (D1.out.call _ (Below.refl _ _)) ?_; rintro e w2 ⟨rfl, hw⟩; replace hw := hw.symm; subst hw; clear D1)
        | (go_at_call 23; with_reducible refine Calls.mono (D2.out.call _ (Below.refl _ _)) ?_; rintro e w2 ⟨rfl, hw⟩; replace hw := hw.symm; subst hw))
      go_ret
      exact ⟨rfl, HB.out⟩
    · have D1 := hid (C1 _ h1)
      have D2 := hid (C2 _ h2)
      clear hV hn h1 h2 C1 C2
      go_enter Tryd.func24, Tryd.ntmps24
      go_wp2_with (first
        | (go_at_call 23; with_reducible refine Calls.mono (D1.out.call _ (Below.refl _ _)) ?_; rintro e w2 ⟨rfl, hw⟩; replace hw := hw.symm; subst hw; clear D1)
        | (go_at_call 23; with_reducible refine Calls.mono (D2.out.call _ (Below.refl _ _)) ?_; rintro e w2 ⟨rfl, hw⟩; replace hw := hw.symm; subst hw)
        | (go_at_call 46; with_reducible refine Calls.mono HP.out ?_; rintro e w2 ⟨rfl, hb⟩; have H2 := hid (via (w := w) HB.out hb); clear hb))
      go_ret
      exact ⟨rfl, H2.out⟩
  by_cases e12 : op = 12
  · subst e12
    have C := hid (near_at (v := allB (bnds 12) p) hV 0 4 (S := 0) (T := 4) rfl rfl (by decide) (by rw [hn]; decide) (-1048576) 1048576 rfl)
    clear hV hn
    go_enter Tryd.func24, Tryd.ntmps24
    go_wp2_with (go_at_call 23; with_reducible refine Calls.mono (C.out.call _ (Below.refl _ _)) ?_; rintro e w2 ⟨rfl, hw⟩; replace hw := hw.symm; subst hw)
    go_ret
    exact ⟨rfl, HB.out⟩
  · have eb : allB (bnds op) p = true := by unfold bnds; simp [e1, e2, e3, e4, e5, e6, e7, e8, e10, e11, e12, allB]
    rw [eb]
    clear eb hV hn
    go_enter Tryd.func24, Tryd.ntmps24
    go_wp2
    go_ret
    exact ⟨rfl, HB.out⟩
end Go.Proofs.YtamojciiacmjaaaDoor
/- Whether nodes lead round, by the document: the contract. -/
namespace Go.Proofs.YtamojciiacmjaaaDoor
open Num Go.RowKit
set_option linter.unusedVariables false
set_option linter.unusedSimpArgs false

/-- is all of it done, or no place? -/
def okX (n : Nat) (D : List Bool) (x : Int) : Bool := decide (x < 0) || decide ((n : Int) ≤ x) || bt D x.toNat
def okB (n : Nat) (D : List Bool) (l : List Int) : Bool := l.all (okX n D)
theorem okB_iff {G : List (List Int)} {n : Nat} {D : List Bool} {i : Nat} (hn : n = G.length) : okB n D (inL G i) = true ↔ ∀ k, k < G.length → hasB G i k = true → bt D k = true := by
  unfold okB okX
  rw [List.all_eq_true]
  constructor
  · intro h k hk hh
    have := h _ (has_iff.1 hh)
    simp at this
    rcases this with h1 | h1
    · omega
    · exact h1
  · intro h x hx
    by_cases h0 : x < 0
    · simp [h0]
    · by_cases h1 : (n : Int) ≤ x
      · simp [h1]
      · have e : ((x.toNat : Nat) : Int) = x := by omega
        have := h x.toNat (by omega) (has_iff.2 (by rw [e]; exact hx))
        simp [this]
theorem okX_in {n : Nat} (D : List Bool) {m : Nat} (h : m < n) : okX n D (m : Int) = bt D m := by
  unfold okX
  rw [decide_eq_false (by omega), decide_eq_false (by omega)]
  simp
theorem okB_step {n : Nat} {D : List Bool} {l : List Int} {j : Nat} {x : Int} (h : l[j]? = some x) : okB n D (l.take (j + 1)) = (okB n D (l.take j) && okX n D x) := by
  unfold okB
  rw [List.take_add_one, h, List.all_append]
  simp

set_option maxRecDepth 100000 in
set_option maxHeartbeats 2000000 in
theorem refRound_any (ao : Option Addr) (n c b off : Nat) (L : List Nv) (out : Int) (w : World) (h : Vn w ao n c b off L) (hf : Few n L) :
    Calls Tryd.prog 57 #[.agg #[.slice ao n c, .int .i64 out]] w fun e w' => e = .returned (.bool (roundB (insL L))) ∧ Below w.heap.size w w' := by
  have hl := vn_len h
  have hn := hf.n
  have hr := run_falses n (by omega)
  have H := hid (And.intro h (And.intro hf hl))
  have hm := mk_start w ao n c out hn
  have hG : Hid ((insL L).length = n) := by show (insL L).length = n; rw [insL_len, hl]
  clear h hl hf
  go_enter Tryd.func57, Tryd.ntmps57
  go_wp2
  generalize w.heap.size + 1 = g at *
  generalize ((w.alloc (.cells #[.slice ao n c, .int .i64 out] 36)).alloc (.cells (bools (List.replicate n false)).toArray 4)) = W at *
  have HM := hid hm
  have hd := hid (rd_start (insL L))
  rw [hG.out] at hd
  clear hm hr
  generalize List.replicate n false = D0 at *
  go_loopg [4] n (fun gk i wr => ∃ (r : Nat) (D : List Bool), r ≤ n ∧ gk = n - r ∧ i = .int .i64 r ∧ Mk w w.heap.size g ao n c out D wr ∧ Rd (insL L) r D)
  case atStart => exact ⟨0, D0, Nat.zero_le _, rfl, rfl, HM.out, hd.out⟩
  case round =>
    obtain ⟨r, D, hr, rfl, rfl, hm1, hd1⟩ := hrel
    have HM1 := hid hm1
    have HD1 := hid hd1
    obtain ⟨c0, c1⟩ := hm1.bx
    clear hm1 hd1 HM hd
    by_cases hlt : r < n
    · have hltz : (r : Int) < (n : Int) := by omega
      go_wp2
      go_loopg [5, 6, 7, 8] n (fun gk i x6 x7 x8 wr => ∃ (i' : Nat) (D : List Bool), i' ≤ n ∧ gk = n - i' ∧ i = .int .i64 i' ∧ Mk w w.heap.size g ao n c out D wr ∧ Re (insL L) r i' D)
      case atStart => exact ⟨0, D, Nat.zero_le _, rfl, rfl, HM1.out, re_start HD1.out⟩
      case round =>
        obtain ⟨i, D', hi, rfl, rfl, hm2, hd2⟩ := hrel
        have HM2 := hid hm2
        have HD2 := hid hd2
        obtain ⟨d0, d1⟩ := hm2.bx
        clear hm2 hd2 HM1 HD1 c0 c1
        by_cases hilt : i < n
        · have hiltz : (i : Int) < (n : Int) := by omega
          obtain ⟨v, hv⟩ : ∃ v, L[i]? = some v := ⟨_, List.getElem?_eq_getElem (by rw [H.out.2.2]; exact hilt)⟩
          obtain ⟨rfl, ⟨f0, f1, f2⟩, hvi, hvp⟩ := vn_at (H.out.1.below HM2.out.low) hv
          have HE := hid (And.intro (insL_at hv) (And.intro hvi (vi_len hvi)))
          have hni := H.out.2.1.i v (List.mem_of_getElem? hv)
          clear hv f0 f2 hvi hvp
          go_wp2
          go_loopg [6, 7, 8] v.ni (fun gk ok k x8 w3 => ∃ j : Nat, j ≤ v.ni ∧ gk = v.ni - j ∧ k = .int .i64 j ∧ ok = .bool (okB n D' (v.l.take j)) ∧ w3 = wr)
          case atStart => exact ⟨0, Nat.zero_le _, rfl, rfl, rfl, rfl⟩
          case round =>
            obtain ⟨j, hj, rfl, rfl, rfl, rfl⟩ := hrel
            by_cases hjlt : j < v.ni
            · have hjltz : (j : Int) < (v.ni : Int) := by omega
              obtain ⟨x, hx⟩ : ∃ m, v.l[j]? = some m := ⟨_, List.getElem?_eq_getElem (by rw [HE.out.2.2]; exact hjlt)⟩
              obtain ⟨ha, g0⟩ := vi_at HE.out.2.1 hx
              have HS := hid (okB_step (n := n) (D := D') hx)
              clear hx
              rcases hok : okB n D' (v.l.take j) with _ | _
              · have HO := hid hok
                clear hok
                go_wp2
                go_roundg (v.ni - (j + 1))
                case measure => omega
                case rel => exact ⟨j + 1, hjlt, rfl, by simp, by rw [HS.out, HO.out]; rfl, rfl⟩
              · have HO := hid hok
                clear hok
                by_cases h0 : x < 0
                · go_wp2
                  go_roundg (v.ni - (j + 1))
                  case measure => omega
                  case rel => exact ⟨j + 1, hjlt, rfl, by simp, by rw [HS.out, HO.out]; simp [okX, h0], rfl⟩
                · by_cases h1 : (n : Int) ≤ x
                  · go_wp2
                    go_roundg (v.ni - (j + 1))
                    case measure => omega
                    case rel => exact ⟨j + 1, hjlt, rfl, by simp, by rw [HS.out, HO.out]; simp [okX, h1], rfl⟩
                  · obtain ⟨m, rfl⟩ : ∃ m : Nat, x = (m : Int) := ⟨x.toNat, by omega⟩
                    have hmn : m < n := by omega
                    have hmz : (m : Int) < (n : Int) := by omega
                    have e0 := ot_bt0 HM2.out.d hmn
                    go_wp2
                    go_roundg (v.ni - (j + 1))
                    case measure => omega
                    case rel => exact ⟨j + 1, hjlt, rfl, by simp, by rw [HS.out, HO.out, okX_in D' hmn]; simp, rfl⟩
            · obtain rfl : j = v.ni := by omega
              have e0 := ot_bt0 HM2.out.d hilt
              have e1 := ot_fz0 HM2.out.d hilt
              have HV : Hid (okB n D' (v.l.take v.ni) = okB n D' (inL (insL L) i)) := by
                show okB n D' (v.l.take v.ni) = okB n D' (inL (insL L) i)
                rw [HE.out.1, List.take_of_length_le (by rw [HE.out.2.2]; exact Nat.le_refl _)]
              generalize hok : okB n D' (v.l.take v.ni) = ok at *
              rcases hb : bt D' i with _ | _
              · have HBt := hid hb
                go_wp2
                go_roundg (n - (i + 1))
                case measure => omega
                case rel => exact ⟨i + 1, D'.set i ok, hilt, rfl, by simp, mk_set HM2.out hilt ok, re_step HD2.out (by rw [hG.out]; exact hilt) (by rw [HBt.out, HV.out, okB_iff hG.out.symm]; simp)⟩
              · have HBt := hid hb
                go_wp2
                go_roundg (n - (i + 1))
                case measure => omega
                case rel => exact ⟨i + 1, D'.set i true, hilt, rfl, by simp, mk_set HM2.out hilt true, re_step HD2.out (by rw [hG.out]; exact hilt) (by rw [HBt.out]; simp)⟩
        · obtain rfl : i = n := by omega
          go_wp2
          go_roundg (i - (r + 1))
          case measure => omega
          case rel => exact ⟨r + 1, D', hlt, rfl, by simp, HM2.out, re_end (by rw [hG.out]; exact HD2.out)⟩
    · obtain rfl : r = n := by omega
      go_wp2
      go_loopg [9] r (fun gk i w3 => ∃ i' : Nat, i' ≤ r ∧ gk = r - i' ∧ i = .int .i64 i' ∧ w3 = wr ∧ ∀ k, k < i' → bt D k = true)
      case atStart => exact ⟨0, Nat.zero_le _, rfl, rfl, rfl, fun k hk => by omega⟩
      case round =>
        obtain ⟨i, hi, rfl, rfl, rfl, ha⟩ := hrel
        have HA := hid ha
        clear ha
        by_cases hilt : i < r
        · have hiltz : (i : Int) < (r : Int) := by omega
          have e0 := ot_bt0 HM1.out.d hilt
          rcases hb : bt D i with _ | _
          · have HBt := hid hb
            have HR := hid (rd_no (by rw [hG.out]; exact HD1.out) (by rw [hG.out]; exact hilt) hb)
            clear hb
            rw [HBt.out] at e0
            go_wp2
            go_ret
            exact ⟨ret_bool HR.out.symm, HM1.out.low⟩
          · have HBt := hid hb
            clear hb
            rw [HBt.out] at e0
            go_wp2
            go_roundg (r - (i + 1))
            case measure => omega
            case rel =>
              refine ⟨i + 1, hilt, rfl, by simp, rfl, fun k hk => ?_⟩
              by_cases e : k = i
              · subst e; exact HBt.out
              · exact HA.out k (by omega)
        · obtain rfl : i = r := by omega
          have HR := hid (rd_yes (by rw [hG.out]; exact HD1.out) (by rw [hG.out]; exact HA.out))
          go_wp2
          go_ret
          exact ⟨ret_bool HR.out.symm, HM1.out.low⟩
end Go.Proofs.YtamojciiacmjaaaDoor
/- What is wrong with a node, and with a filter, by the document: contracts. -/
namespace Go.Proofs.YtamojciiacmjaaaDoor
open Num Go.RowKit
set_option linter.unusedVariables false
set_option linter.unusedSimpArgs false

theorem refArity_v {op : Int} {v : Value} (h : arI op = v) {w : World} (hT : Tabs w) : Calls Tryd.prog 22 #[.int .i64 op] w fun e w' => e = .returned v ∧ Below w.heap.size w w' := by
  rw [← h]; exact refArity_any op w hT
theorem near_inp {l : List Int} {count : Int} (h0 : 0 ≤ count) : nearB l 0 l.length (-1) (count - 1) = l.all (inpB count) := by
  rw [Bool.eq_iff_iff, nearB_iff, List.all_eq_true]
  constructor
  · intro h m hm
    obtain ⟨i, hi⟩ := List.getElem?_of_mem hm
    have hlt := (List.getElem?_eq_some_iff.1 hi).1
    have hn : nth l (0 + i) = m := by rw [Nat.zero_add]; unfold nth; rw [List.getD_eq_getElem?_getD, hi]; rfl
    have := h i hlt
    rw [hn] at this
    exact inp_yes (by omega)
  · intro h i hi
    have hm : nth l (0 + i) ∈ l := by rw [Nat.zero_add]; exact List.mem_of_getElem? (nth_get hi)
    have := h _ hm
    unfold inpB at this
    simp only [Bool.or_eq_true, Bool.and_eq_true, decide_eq_true_eq] at this
    omega

set_option maxRecDepth 100000 in
set_option maxHeartbeats 4000000 in
theorem refOne_any (op : Int) (ai : Option Addr) (ni ci bi oi : Nat) (l : List Int) (ap : Option Addr) (np cp bp ob : Nat) (p : List Int) (count : Int) (w : World) (hT : Tabs w) (hi : Vi w ai ni ci bi oi l) (hp : Vi w ap np cp bp ob p) (h0 : 0 ≤ count) (h9 : count ≤ 1000) :
    Calls Tryd.prog 9 #[.agg #[.int .i64 op, .slice ai ni ci, .slice ap np cp], .int .i64 count] w fun e w' => e = .returned (.int .i64 (oneI op l p count)) ∧ Below w.heap.size w w' := by
  have hb0 : Below w.heap.size w (w.alloc (.cells #[.int .i64 op, .slice ai ni ci, .slice ap np cp] 24)) := (Below.refl _ _).alloc (Nat.le_refl _) _
  have H0 := hid (And.intro (nb_new w op ai ni ci ap np cp 24) (And.intro hb0 (And.intro (hi.below hb0) (And.intro (hp.below hb0) (hT.below hb0)))))
  have hil := vi_len hi
  have hpl := vi_len hp
  have hni := vz_small hi
  have hnp := vz_small hp
  obtain ⟨a, ha⟩ : ∃ a, a = leastI op := ⟨_, rfl⟩
  obtain ⟨b, hb⟩ : ∃ b, b = mostI op := ⟨_, rfl⟩
  obtain ⟨pn, hpn⟩ : ∃ pn, pn = parI op := ⟨_, rfl⟩
  obtain ⟨kb, hkb⟩ : ∃ kb, kb = kindB op := ⟨_, rfl⟩
  have HA : Hid (arI op = .tuple #[.int .i64 a, .int .i64 b, .int .i64 (pn : Int), .bool kb]) := by show arI op = _; rw [ha, hb, hpn, hkb]; rfl
  have HO : Hid (oneI op l p count = if kb = false then 1 else if (ni : Int) < a ∨ b < (ni : Int) ∨ np ≠ pn then 7 else if l.all (inpB count) = false then 8 else if allB (bnds op) p = false then 3 else 0) := by
    show oneI op l p count = _
    unfold oneI
    rw [ha, hb, hpn, hkb, hil, hpl]
  have HP := hid hpn
  have hnear := near_inp (l := l) h0
  rw [hil] at hnear
  have HN := hid hnear
  obtain ⟨X, hX⟩ : ∃ X, X = oneI op l p count := ⟨_, rfl⟩
  rw [← hX]
  rw [← hX] at HO
  clear ha hb hpn hkb hil hpl hb0 hi hp hT hX hnear
  cases kb
  · have HZ : Hid (X = 1) := by show X = 1; rw [HO.out, if_pos rfl]
    go_enter Tryd.func9, Tryd.ntmps9
    go_wp2_with (go_at_call 22; with_reducible refine Calls.mono (refArity_v HA.out H0.out.2.2.2.2) ?_; rintro e w1 ⟨rfl, hb⟩; have H1 := hid (via (w := w) H0.out.2.1 hb); clear hb)
    go_ret
    exact ⟨ret_int HZ.out.symm, H1.out⟩
  by_cases h1 : (ni : Int) < a
  · skip
    have HZ : Hid (X = 7) := by show X = 7; rw [HO.out, if_neg (by simp), if_pos (Or.inl h1)]
    go_enter Tryd.func9, Tryd.ntmps9
    go_wp2_with (go_at_call 22; with_reducible refine Calls.mono (refArity_v HA.out H0.out.2.2.2.2) ?_; rintro e w1 ⟨rfl, hb⟩; have HB1 := hid hb; have H1 := hid (via (w := w) H0.out.2.1 hb); obtain ⟨x0, x1, x2⟩ := H0.out.1.below hb; clear hb)
    go_ret
    exact ⟨ret_int HZ.out.symm, H1.out⟩
  by_cases h2 : b < (ni : Int)
  · skip
    have HZ : Hid (X = 7) := by show X = 7; rw [HO.out, if_neg (by simp), if_pos (Or.inr (Or.inl h2))]
    go_enter Tryd.func9, Tryd.ntmps9
    go_wp2_with (go_at_call 22; with_reducible refine Calls.mono (refArity_v HA.out H0.out.2.2.2.2) ?_; rintro e w1 ⟨rfl, hb⟩; have HB1 := hid hb; have H1 := hid (via (w := w) H0.out.2.1 hb); obtain ⟨x0, x1, x2⟩ := H0.out.1.below hb; clear hb)
    go_ret
    exact ⟨ret_int HZ.out.symm, H1.out⟩
  by_cases h3 : np = pn
  · have HQ : Hid (X = if l.all (inpB count) = false then 8 else if allB (bnds op) p = false then 3 else 0) := by
      show X = _
      rw [HO.out, if_neg (by simp), if_neg (by omega)]
    subst h3
    have hq : ¬ count < 0 := by omega
    have hpz : ((np : Int) != (np : Int)) = false := by simp
    have hcw : -9223372036854775808 ≤ count - 1 := by omega
    clear HO
    rcases hall : l.all (inpB count) with _ | _
    · have HZ : Hid (X = 8) := by show X = 8; rw [HQ.out, if_pos hall]
      have C := hid (near_at (v := false) H0.out.2.2.1 0 ni (S := 0) (T := (ni : Int)) rfl rfl (Nat.zero_le _) (Nat.le_refl _) (-1) (count - 1) (by rw [Nat.sub_zero, HN.out, hall]))
      clear hall
      go_enter Tryd.func9, Tryd.ntmps9
      go_wp2_with (first
        | (go_at_call 22; with_reducible refine Calls.mono (refArity_v HA.out H0.out.2.2.2.2) ?_; rintro e w1 ⟨rfl, hb⟩; have HB1 := hid hb; have H1 := hid (via (w := w) H0.out.2.1 hb); obtain ⟨x0, x1, x2⟩ := H0.out.1.below hb; clear hb)
        | (go_at_call 23; with_reducible refine Calls.mono (C.out.call _ HB1.out) ?_; rintro e w2 ⟨rfl, hw⟩; replace hw := hw.symm; subst hw))
      go_ret
      exact ⟨ret_int HZ.out.symm, H1.out⟩
    · have HQ2 : Hid (X = if allB (bnds op) p = false then 3 else 0) := by show X = _; rw [HQ.out, hall, if_neg (by simp)]
      have C := hid (near_at (v := true) H0.out.2.2.1 0 ni (S := 0) (T := (ni : Int)) rfl rfl (Nat.zero_le _) (Nat.le_refl _) (-1) (count - 1) (by rw [Nat.sub_zero, HN.out, hall]))
      clear hall
      rcases hbd : allB (bnds op) p with _ | _
      · have HZ : Hid (X = 3) := by show X = 3; rw [HQ2.out, if_pos hbd]
        have HD := hid hbd
        clear hbd
        go_enter Tryd.func9, Tryd.ntmps9
        go_wp2_with (first
          | (go_at_call 22; with_reducible refine Calls.mono (refArity_v HA.out H0.out.2.2.2.2) ?_; rintro e w1 ⟨rfl, hb⟩; have HB1 := hid hb; have H1 := hid (via (w := w) H0.out.2.1 hb); obtain ⟨x0, x1, x2⟩ := H0.out.1.below hb; clear hb)
          | (go_at_call 23; with_reducible refine Calls.mono (C.out.call _ HB1.out) ?_; rintro e w2 ⟨rfl, hw⟩; replace hw := hw.symm; subst hw)
          | (go_at_call 24; with_reducible refine Calls.mono (refBounds_any _ _ _ _ _ _ _ bp ob p _ (H0.out.2.2.2.1.below HB1.out) HP.out) ?_; rintro e w2 ⟨rfl, hb⟩; rw [HD.out]; have H2 := hid (via (w := w) H1.out hb); clear hb))
        go_ret
        exact ⟨ret_int HZ.out.symm, H2.out⟩
      · have HZ : Hid (X = 0) := by show X = 0; rw [HQ2.out, hbd, if_neg (by simp)]
        have HD := hid hbd
        clear hbd
        go_enter Tryd.func9, Tryd.ntmps9
        go_wp2_with (first
          | (go_at_call 22; with_reducible refine Calls.mono (refArity_v HA.out H0.out.2.2.2.2) ?_; rintro e w1 ⟨rfl, hb⟩; have HB1 := hid hb; have H1 := hid (via (w := w) H0.out.2.1 hb); obtain ⟨x0, x1, x2⟩ := H0.out.1.below hb; clear hb)
          | (go_at_call 23; with_reducible refine Calls.mono (C.out.call _ HB1.out) ?_; rintro e w2 ⟨rfl, hw⟩; replace hw := hw.symm; subst hw)
          | (go_at_call 24; with_reducible refine Calls.mono (refBounds_any _ _ _ _ _ _ _ bp ob p _ (H0.out.2.2.2.1.below HB1.out) HP.out) ?_; rintro e w2 ⟨rfl, hb⟩; rw [HD.out]; have H2 := hid (via (w := w) H1.out hb); clear hb))
        go_ret
        exact ⟨ret_int HZ.out.symm, H2.out⟩
  · have h3z : ¬ ((np : Int) = (pn : Int)) := by omega
    have h3b : ((np : Int) != (pn : Int)) = true := by simp [bne, h3z]
    have HZ : Hid (X = 7) := by show X = 7; rw [HO.out, if_neg (by simp), if_pos (Or.inr (Or.inr h3))]
    go_enter Tryd.func9, Tryd.ntmps9
    go_wp2_with (go_at_call 22; with_reducible refine Calls.mono (refArity_v HA.out H0.out.2.2.2.2) ?_; rintro e w1 ⟨rfl, hb⟩; have HB1 := hid hb; have H1 := hid (via (w := w) H0.out.2.1 hb); obtain ⟨x0, x1, x2⟩ := H0.out.1.below hb; clear hb)
    go_ret
    exact ⟨ret_int HZ.out.symm, H1.out⟩
end Go.Proofs.YtamojciiacmjaaaDoor
/- What is wrong with a filter, by the document: the contract. -/
namespace Go.Proofs.YtamojciiacmjaaaDoor
open Num Go.RowKit
set_option linter.unusedVariables false
set_option linter.unusedSimpArgs false

section
variable {w1 : World} {b1 o1 : Nat} {v1 : Value} {b2 o2 : Nat} {v2 : Value} {b3 o3 : Nat} {v3 : Value} {b4 o4 : Nat} {v4 : Value} {w' : World}
theorem refOne_s {op count x : Int} {ai : Option Addr} {ni ci bi oi : Nat} {l : List Int} {ap : Option Addr} {np cp bp ob : Nat} {p : List Int} (hT : Tabs w1) (hi : Vi w1 ai ni ci bi oi l) (hp : Vi w1 ap np cp bp ob p) (h0 : 0 ≤ count) (h9 : count ≤ 1000) (hx : oneI op l p count = x) (hs : S4 w1 b1 o1 v1 b2 o2 v2 b3 o3 v3 b4 o4 v4 w') :
    Calls Tryd.prog 9 #[.agg #[.int .i64 op, .slice ai ni ci, .slice ap np cp], .int .i64 count] w' fun e w2 => e = .returned (.int .i64 x) ∧ Below w'.heap.size w' w2 := by
  subst hx
  exact refOne_any op ai ni ci bi oi l ap np cp bp ob p count w' (hT.below hs.2) (hi.below hs.2) (hp.below hs.2) h0 h9
end
set_option maxRecDepth 100000 in
set_option maxHeartbeats 4000000 in
theorem refCheck_any (ao : Option Addr) (n c b off : Nat) (L : List Nv) (out : Int) (w : World) (hT : Tabs w) (h : Vn w ao n c b off L) (hf : Few n L) :
    Calls Tryd.prog 33 #[.agg #[.slice ao n c, .int .i64 out]] w fun e w' => e = .returned (.int .i64 (checkI L out)) ∧ Below w.heap.size w w' := by
  have hl := vn_len h
  have hn := vz_small h.z
  have hs0 := sg_new w ao n c out 36
  have H0 := hid (And.intro h (And.intro hf (And.intro hl hT)))
  have HS := hid hs0
  obtain ⟨X, hX⟩ : ∃ X, X = checkI L out := ⟨_, rfl⟩
  rw [← hX]
  have hX2 : X = if n = 0 ∨ 256 < n then 3 else if firstI (n : Int) L = 0 then (if 0 ≤ out ∧ out < (n : Int) then (if roundB (insL L) = true then 6 else 0) else 8) else firstI (n : Int) L := by
    rw [hX]; unfold checkI; rw [hl]
  have HY := hid hX2
  clear hX2 hX hf h hl hT hs0
  by_cases h1 : n = 0
  · subst h1
    have HZ : Hid (X = 3) := by show X = 3; rw [HY.out, if_pos (Or.inl rfl)]
    go_enter Tryd.func33, Tryd.ntmps33
    go_wp2
    go_ret
    exact ⟨ret_int HZ.out.symm, HS.out.2⟩
  have h1z : ¬ ((n : Int) < 1) := by omega
  by_cases h2 : 256 < n
  · have HZ : Hid (X = 3) := by show X = 3; rw [HY.out, if_pos (Or.inr h2)]
    have h2z : (256 : Int) < (n : Int) := by omega
    go_enter Tryd.func33, Tryd.ntmps33
    go_wp2
    go_ret
    exact ⟨ret_int HZ.out.symm, HS.out.2⟩
  have HZ : Hid (X = if firstI (n : Int) L = 0 then (if 0 ≤ out ∧ out < (n : Int) then (if roundB (insL L) = true then 6 else 0) else 8) else firstI (n : Int) L) := by
    show X = _; rw [HY.out, if_neg (by omega)]
  have h2z : ¬ (256 : Int) < (n : Int) := by omega
  clear HY
  go_enter Tryd.func33, Tryd.ntmps33
  go_wp2
  go_loopg [3] n (fun g x3 wr => ∃ (w9 : World) (k : Nat), w9 = wr ∧ k ≤ n ∧ g = n - k ∧ x3 = .int .i64 k ∧ Sg w ao n c out w9 ∧ firstI (n : Int) (L.drop k) = firstI (n : Int) L)
  case atStart => exact ⟨_, 0, rfl, Nat.zero_le _, rfl, rfl, HS.out, rfl⟩
  case round =>
    clear HS
    obtain ⟨w9, k, rfl, hk, rfl, rfl, hG, hS⟩ := hrel
    have HG := hid hG
    obtain ⟨⟨x0, x1⟩, -⟩ := id hG
    clear hG
    by_cases hlt : k < n
    · have hlz : (k : Int) < (n : Int) := by omega
      obtain ⟨v, hv⟩ : ∃ v, L[k]? = some v := ⟨_, List.getElem?_eq_getElem (by rw [H0.out.2.2.1]; exact hlt)⟩
      rw [first_step hv] at hS
      obtain ⟨rfl, ⟨c0, c1, c2⟩, g1, g2⟩ := vn_at (H0.out.1.below HG.out.2) hv
      obtain ⟨y, hy⟩ : ∃ y, y = nodeI (n : Int) v := ⟨_, rfl⟩
      rw [← hy] at hS
      have HE : Hid (oneI v.op v.l v.p (n : Int) = y) := hy.symm
      have HS := hid hS
      have HV := hid (And.intro g1 (And.intro g2 (H0.out.2.2.2.below HG.out.2)))
      have hn0 : (0 : Int) ≤ (n : Int) := by omega
      have hn9 : (n : Int) ≤ 1000 := by omega
      have hS4 : S4 w9 w.heap.size 0 (.slice (some ⟨b, off, none⟩) n c) b (off + k * 3) (.int .i64 v.op) b (off + k * 3 + 1) (.slice v.ai v.ni v.ci) b (off + k * 3 + 2) (.slice v.ap v.np v.cp) w9 := ⟨⟨x0, c0, c1, c2⟩, Below.refl _ _⟩
      clear hS hv g1 g2 hy
      go_wp2
      clear x0 x1 c0 c1 c2
      go_region_held3 (fun w' => (w'.cell? ⟨w.heap.size, 0, none⟩ = some (.slice (some ⟨b, off, none⟩) n c) ∧ w'.cell? ⟨b, off + k * 3, none⟩ = some (.int .i64 v.op) ∧ w'.cell? ⟨b, off + k * 3 + 1, none⟩ = some (.slice v.ai v.ni v.ci) ∧ w'.cell? ⟨b, off + k * 3 + 2, none⟩ = some (.slice v.ap v.np v.cp)) ∧ Below w9.heap.size w9 w') (repeat (first | with_reducible assumption | with_reducible refine s4_drew ?_ | with_reducible refine s4_below ?_ ‹_›)) ((go_at_call 9; with_reducible refine Calls.mono (refOne_s HV.out.2.2 HV.out.1 HV.out.2.1 hn0 hn9 HE.out (by with_reducible assumption)) ?_; rintro e w3 ⟨rfl, hb⟩))
      rename_i hh
      have HH := hid (sg_below HG.out hh.2)
      clear hh hS4
      by_cases e1 : y = 0
      · rw [if_pos e1] at HS
        go_wp2
        go_roundg (n - (k + 1))
        case measure => omega
        case rel => exact ⟨_, k + 1, rfl, hlt, rfl, by simp, HH.out, HS.out⟩
      · rw [if_neg e1] at HS
        go_wp2
        go_ret
        exact ⟨ret_int (by rw [HZ.out, ← HS.out, if_neg e1]), HH.out.2⟩
    · obtain rfl : k = n := by omega
      rw [List.drop_eq_nil_of_le (by rw [H0.out.2.2.1]; exact Nat.le_refl _)] at hS
      have HZ2 : Hid (X = if 0 ≤ out ∧ out < (k : Int) then (if roundB (insL L) = true then 6 else 0) else 8) := by
        show X = _; rw [HZ.out, if_pos (by rw [← hS]; rfl)]
      clear hS HZ
      by_cases e2 : out < 0
      · have HZ3 : Hid (X = 8) := by show X = 8; rw [HZ2.out, if_neg (by omega)]
        go_wp2
        go_ret
        exact ⟨ret_int HZ3.out.symm, HG.out.2⟩
      by_cases e3 : out < (k : Int)
      · have HZ3 : Hid (X = if roundB (insL L) = true then 6 else 0) := by show X = _; rw [HZ2.out, if_pos (by omega)]
        clear HZ2
        rcases hr : roundB (insL L) with _ | _
        · have HR := hid hr
          clear hr
          go_wp2_with (go_at_call 57; with_reducible refine Calls.mono (refRound_any _ _ _ _ _ L _ _ (H0.out.1.below HG.out.2) H0.out.2.1) ?_; rintro e w2 ⟨rfl, hb⟩; rw [HR.out]; have HB2 := hid (via (w := w) HG.out.2 hb); clear hb)
          go_ret
          exact ⟨ret_int (by rw [HZ3.out, HR.out]; rfl), HB2.out⟩
        · have HR := hid hr
          clear hr
          go_wp2_with (go_at_call 57; with_reducible refine Calls.mono (refRound_any _ _ _ _ _ L _ _ (H0.out.1.below HG.out.2) H0.out.2.1) ?_; rintro e w2 ⟨rfl, hb⟩; rw [HR.out]; have HB2 := hid (via (w := w) HG.out.2 hb); clear hb)
          go_ret
          exact ⟨ret_int (by rw [HZ3.out, HR.out]; rfl), HB2.out⟩
      · have HZ3 : Hid (X = 8) := by show X = 8; rw [HZ2.out, if_neg (by omega)]
        go_wp2
        go_ret
        exact ⟨ret_int HZ3.out.symm, HG.out.2⟩
end Go.Proofs.YtamojciiacmjaaaDoor
