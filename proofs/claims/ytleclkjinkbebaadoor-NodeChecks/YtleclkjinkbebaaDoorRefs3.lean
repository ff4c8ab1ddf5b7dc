/- Whether parameters are within bounds, by the document: the contract. -/
import Derived.Test.YtleclkjinkbebaaDoorRefs2
namespace Go.Proofs.YtleclkjinkbebaaDoor
open Num Go.RowKit
set_option linter.unusedVariables false
set_option linter.unusedSimpArgs false

theorem tint_near {l : List Int} (h : l.length = 20) : (nearB l 0 20 (-9223372036854775808) 9223372036854775807 && rightM l) = rightM l := by
  rcases hr : rightM l with _ | _
  · rw [Bool.and_false]
  · rw [Bool.and_true]
    unfold rightM at hr
    rw [Bool.and_eq_true, List.all_eq_true] at hr
    rw [nearB_iff]
    intro i hi
    have hm : nth l (0 + i) ∈ l := by
      rw [Nat.zero_add]
      exact List.mem_of_getElem? (nth_get (by omega))
    have := hr.2 _ hm
    unfold okI at this
    rw [Bool.and_eq_true, decide_eq_true_eq, decide_eq_true_eq] at this
    omega
theorem allB_tog' {fs : List Fn1} {g : Fn1} {l : List Int} (h : fs ≠ []) : allB (togB fs g) l = (allB fs l && g l) := allB_tog fs g l h
theorem bnds_5 {p : List Int} (h : p.length = 20) : allB (bnds 5) p = rightM p := by
  show allB (togB (insB 0 20 (-9223372036854775808) 9223372036854775807) rightM) p = _
  rw [allB_tog' (insB_ne' (by decide))]
  exact tint_near h
theorem bnds_6 (p : List Int) : allB (bnds 6) p = ((nearB p 0 4 0 255 && pixB 0 p) && nearB p 4 4 (-1048576) 1048576) := by
  show allB (togB (insB 0 4 0 255) (pixB 0) ++ insB 4 4 (-1048576) 1048576) p = _
  rw [allB_app, allB_tog' (insB_ne' (by decide))]; rfl
theorem bnds_10 (p : List Int) : allB (bnds 10) p = (nearB p 0 4 (-1048576) 1048576 && tileB p) := by
  show allB (togB (insB 0 4 (-1048576) 1048576) tileB) p = _
  rw [allB_tog' (insB_ne' (by decide))]; rfl
theorem bnds_11 (p : List Int) : allB (bnds 11) p = ((nearB p 0 2 (-1048576) 1048576 && nearB p 2 2 0 255) && (nearB p 4 4 0 255 && pixB 4 p)) := by
  show allB (insB 0 2 (-1048576) 1048576 ++ (insB 2 2 0 255 ++ togB (insB 4 4 0 255) (pixB 4))) p = _
  rw [allB_app, allB_app, allB_tog' (insB_ne' (by decide)), Bool.and_assoc]; rfl
theorem tile_in {v0 v1 v2 v3 : Int} (h0 : -1048576 ≤ v0 ∧ v0 ≤ 1048576) (h1 : -1048576 ≤ v1 ∧ v1 ≤ 1048576) (h2 : -1048576 ≤ v2 ∧ v2 ≤ 1048576) (h3 : -1048576 ≤ v3 ∧ v3 ≤ 1048576) :
    (sideB (wrapI (v2 - v0)) && sideB (wrapI (v3 - v1))) = (decide (v0 < v2) && decide (v1 < v3) && decide (v2 - v0 ≤ 4096) && decide (v3 - v1 ≤ 4096)) := by
  rw [wrapI_id (by omega), wrapI_id (by omega)]
  unfold sideB
  rw [Bool.eq_iff_iff]
  simp only [Bool.and_eq_true, decide_eq_true_eq]
  omega

set_option maxRecDepth 100000 in
set_option maxHeartbeats 8000000 in
theorem refBounds_any (op : Int) (ai : Option Addr) (ni ci : Nat) (ap : Option Addr) (np cp bp ob : Nat) (p : List Int) (w : World) (h : Vi w ap np cp bp ob p) (hn : np = parI op) :
    Calls Tryd.prog 18 #[.agg #[.int .i64 op, .slice ai ni ci, .slice ap np cp]] w fun e w' => e = .returned (.bool (allB (bnds op) p)) ∧ Below w.heap.size w w' := by
  have hb0 : Below w.heap.size w (w.alloc (.cells #[.int .i64 op, .slice ai ni ci, .slice ap np cp] 28)) := (Below.refl _ _).alloc (Nat.le_refl _) _
  have hV := h.below hb0
  have hpl := vi_len h
  have HB := hid hb0
  clear h hb0
  by_cases e1 : op = 1
  · subst e1
    have C := hid (near_at (v := allB (bnds 1) p) hV 0 2 (S := 0) (T := 2) rfl rfl (by decide) (by rw [hn]; decide) (-1048576) 1048576 rfl)
    clear hV hn
    go_enter Tryd.func18, Tryd.ntmps18
    go_wp2_with (go_at_call 17; with_reducible refine Calls.mono (C.out.call _ (Below.refl _ _)) ?_; rintro e w2 ⟨rfl, hw⟩; replace hw := hw.symm; subst hw)
    go_ret
    exact ⟨rfl, HB.out⟩
  by_cases e2 : op = 2
  · subst e2
    have C := hid (near_at (v := allB (bnds 2) p) hV 0 2 (S := 0) (T := 2) rfl rfl (by decide) (by rw [hn]; decide) (0) 255 rfl)
    clear hV hn
    go_enter Tryd.func18, Tryd.ntmps18
    go_wp2_with (go_at_call 17; with_reducible refine Calls.mono (C.out.call _ (Below.refl _ _)) ?_; rintro e w2 ⟨rfl, hw⟩; replace hw := hw.symm; subst hw)
    go_ret
    exact ⟨rfl, HB.out⟩
  by_cases e3 : op = 3
  · subst e3
    have C := hid (near_at (v := allB (bnds 3) p) hV 0 2 (S := 0) (T := 2) rfl rfl (by decide) (by rw [hn]; decide) (0) 255 rfl)
    clear hV hn
    go_enter Tryd.func18, Tryd.ntmps18
    go_wp2_with (go_at_call 17; with_reducible refine Calls.mono (C.out.call _ (Below.refl _ _)) ?_; rintro e w2 ⟨rfl, hw⟩; replace hw := hw.symm; subst hw)
    go_ret
    exact ⟨rfl, HB.out⟩
  by_cases e4 : op = 4
  · subst e4
    have C := hid (near_at (v := allB (bnds 4) p) hV 0 2 (S := 0) (T := 2) rfl rfl (by decide) (by rw [hn]; decide) (0) 255 rfl)
    clear hV hn
    go_enter Tryd.func18, Tryd.ntmps18
    go_wp2_with (go_at_call 17; with_reducible refine Calls.mono (C.out.call _ (Below.refl _ _)) ?_; rintro e w2 ⟨rfl, hw⟩; replace hw := hw.symm; subst hw)
    go_ret
    exact ⟨rfl, HB.out⟩
  by_cases e5 : op = 5
  · subst e5
    rw [bnds_5 (by rw [hpl, hn]; rfl)]
    have HV := hid hV
    clear hV hn
    go_enter Tryd.func18, Tryd.ntmps18
    go_wp2_with (go_at_call 29; with_reducible refine Calls.mono (refTint_any _ _ _ bp ob p _ HV.out) ?_; rintro e w2 ⟨rfl, hb⟩; have H2 := hid (via (w := w) HB.out hb); clear hb)
    go_ret
    exact ⟨rfl, H2.out⟩
  by_cases e6 : op = 6
  · subst e6
    rw [bnds_6]
    rcases hx : (nearB p 0 4 0 255 && pixB 0 p) with _ | _
    · have HP := hid (refPixel_any ap np cp bp ob p 0 _ hV (by rw [hn]; decide))
      rw [hx] at HP
      clear hV hn hx
      go_enter Tryd.func18, Tryd.ntmps18
      go_wp2_with (go_at_call 30; with_reducible refine Calls.mono HP.out ?_; rintro e w2 ⟨rfl, hb⟩; have H2 := hid (via (w := w) HB.out hb); clear hb)
      go_ret
      exact ⟨rfl, H2.out⟩
    · have HP := hid (refPixel_any ap np cp bp ob p 0 _ hV (by rw [hn]; decide))
      rw [hx] at HP
      have C := hid (near_at (v := nearB p 4 4 (-1048576) 1048576) hV 4 8 (S := 4) (T := 8) rfl rfl (by decide) (by rw [hn]; decide) (-1048576) 1048576 rfl)
      clear hV hn hx
      go_enter Tryd.func18, Tryd.ntmps18
      go_wp2_with (first
        | (go_at_call 30; with_reducible refine Calls.mono HP.out ?_; rintro e w2 ⟨rfl, hb⟩; have HB2 := hid hb; have H2 := hid (via (w := w) HB.out hb); clear hb)
        | (go_at_call 17; with_reducible refine Calls.mono (C.out.call _ HB2.out) ?_; rintro e w3 ⟨rfl, hw⟩; replace hw := hw.symm; subst hw))
      go_ret
      exact ⟨rfl, H2.out⟩
  by_cases e7 : op = 7
  · subst e7
    have C := hid (near_at (v := allB (bnds 7) p) hV 0 1 (S := 0) (T := 1) rfl rfl (by decide) (by rw [hn]; decide) (0) 6 rfl)
    clear hV hn
    go_enter Tryd.func18, Tryd.ntmps18
    go_wp2_with (go_at_call 17; with_reducible refine Calls.mono (C.out.call _ (Below.refl _ _)) ?_; rintro e w2 ⟨rfl, hw⟩; replace hw := hw.symm; subst hw)
    go_ret
    exact ⟨rfl, HB.out⟩
  by_cases e8 : op = 8
  · subst e8
    have C := hid (near_at (v := allB (bnds 8) p) hV 0 1 (S := 0) (T := 1) rfl rfl (by decide) (by rw [hn]; decide) (0) 5 rfl)
    clear hV hn
    go_enter Tryd.func18, Tryd.ntmps18
    go_wp2_with (go_at_call 17; with_reducible refine Calls.mono (C.out.call _ (Below.refl _ _)) ?_; rintro e w2 ⟨rfl, hw⟩; replace hw := hw.symm; subst hw)
    go_ret
    exact ⟨rfl, HB.out⟩
  by_cases e10 : op = 10
  · subst e10
    rw [bnds_10]
    rcases hx : nearB p 0 4 (-1048576) 1048576 with _ | _
    · have C := hid (near_at (v := false) hV 0 4 (S := 0) (T := 4) rfl rfl (by decide) (by rw [hn]; decide) (-1048576) 1048576 hx)
      clear hV hn hx
      go_enter Tryd.func18, Tryd.ntmps18
      go_wp2
      go_quiet ((go_at_call 17; exact Calls.quiet_of_same (C.out.quiet _)))
      go_wp2
      go_ret
      exact ⟨rfl, below_drewN HB.out _⟩
    · have C := hid (near_at (v := true) hV 0 4 (S := 0) (T := 4) rfl rfl (by decide) (by rw [hn]; decide) (-1048576) 1048576 hx)
      have hx2 := (nearB_iff p 0 4 (-1048576) 1048576).1 hx
      have i0 := hx2 0 (by decide)
      have i1 := hx2 1 (by decide)
      have i2 := hx2 2 (by decide)
      have i3 := hx2 3 (by decide)
      simp only [Nat.zero_add] at i0 i1 i2 i3
      have hnp : np = 4 := hn
      obtain ⟨-, c0⟩ := vi_nth' hV (i := 0) (by omega)
      obtain ⟨-, c1⟩ := vi_nth' hV (i := 1) (by omega)
      obtain ⟨-, c2⟩ := vi_nth' hV (i := 2) (by omega)
      obtain ⟨rfl, c3⟩ := vi_nth' hV (i := 3) (by omega)
      rw [Nat.add_zero] at c0
      have z0 : (0 : Int) < (np : Int) := by omega
      have y0 : 0 < np := by omega
      have z1 : (1 : Int) < (np : Int) := by omega
      have z2 : (2 : Int) < (np : Int) := by omega
      have z3 : (3 : Int) < (np : Int) := by omega
      have hT : (true && tileB p) = (decide (nth p 0 < nth p 2) && decide (nth p 1 < nth p 3) && decide (nth p 2 - nth p 0 ≤ 4096) && decide (nth p 3 - nth p 1 ≤ 4096)) := by
        rw [Bool.true_and]; unfold tileB; exact tile_in i0 i1 i2 i3
      rw [hT]
      clear hT hV hn hx hx2 hnp
      generalize nth p 0 = v0 at *
      generalize nth p 1 = v1 at *
      generalize nth p 2 = v2 at *
      generalize nth p 3 = v3 at *
      have hw0 : IntKind.i64.wrap (v2 - v0) = v2 - v0 := by rw [IntKind.wrap_i64]; omega
      have hw1 : IntKind.i64.wrap (v3 - v1) = v3 - v1 := by rw [IntKind.wrap_i64]; omega
      rcases d1 : decide (v0 < v2) with _ | _
      · go_enter Tryd.func18, Tryd.ntmps18
        go_wp2
        go_quiet ((go_at_call 17; exact Calls.quiet_of_same (C.out.quiet _)))
        go_wp2
        go_ret
        exact ⟨rfl, below_drewN HB.out _⟩
      rcases d2 : decide (v1 < v3) with _ | _
      · go_enter Tryd.func18, Tryd.ntmps18
        go_wp2
        go_quiet ((go_at_call 17; exact Calls.quiet_of_same (C.out.quiet _)))
        go_wp2
        go_ret
        exact ⟨rfl, below_drewN HB.out _⟩
      rcases d3 : decide (v2 - v0 ≤ 4096) with _ | _
      · go_enter Tryd.func18, Tryd.ntmps18
        go_wp2
        go_quiet ((go_at_call 17; exact Calls.quiet_of_same (C.out.quiet _)))
        go_wp2
        go_ret
        exact ⟨rfl, below_drewN HB.out _⟩
      rcases d4 : decide (v3 - v1 ≤ 4096) with _ | _
      · go_enter Tryd.func18, Tryd.ntmps18
        go_wp2
        go_quiet ((go_at_call 17; exact Calls.quiet_of_same (C.out.quiet _)))
        go_wp2
        go_ret
        exact ⟨rfl, below_drewN HB.out _⟩
      · go_enter Tryd.func18, Tryd.ntmps18
        go_wp2
        go_quiet ((go_at_call 17; exact Calls.quiet_of_same (C.out.quiet _)))
        go_wp2
        go_ret
        exact ⟨rfl, below_drewN HB.out _⟩
  by_cases e11 : op = 11
  · subst e11
    rw [bnds_11]
    have C1 := fun v hv => near_at (v := v) hV 0 2 (S := 0) (T := 2) rfl rfl (by decide) (by rw [hn]; decide) (-1048576) 1048576 hv
    have C2 := fun v hv => near_at (v := v) hV 2 4 (S := 2) (T := 4) rfl rfl (by decide) (by rw [hn]; decide) 0 255 hv
    have HP := hid (refPixel_any ap np cp bp ob p 4 _ hV (by rw [hn]; decide))
    rcases h1 : nearB p 0 2 (-1048576) 1048576 with _ | _
    · have D1 := hid (C1 _ h1)
      clear hV hn h1 C1 C2 HP
      go_enter Tryd.func18, Tryd.ntmps18
      go_wp2_with (go_at_call 17; with_reducible refine Calls.mono (D1.out.call _ (Below.refl _ _)) ?_; rintro e w2 ⟨rfl, hw⟩; replace hw := hw.symm; subst hw)
      go_ret
      exact ⟨rfl, HB.out⟩
    rcases h2 : nearB p 2 2 0 255 with _ | _
    · have D1 := hid (C1 _ h1)
      have D2 := hid (C2 _ h2)
      clear hV hn h1 h2 C1 C2 HP
      go_enter Tryd.func18, Tryd.ntmps18
      go_wp2_with (first
        | (go_at_call 17; with_reducible refine Calls.mono (D1.out.call _ (Below.refl _ _)) ?_; rintro e w2 ⟨rfl, hw⟩; replace hw := hw.symm; subst hw; clear D1)
        | (go_at_call 17; with_reducible refine Calls.mono (D2.out.call _ (Below.refl _ _)) ?_; rintro e w2 ⟨rfl, hw⟩; replace hw := hw.symm; subst hw))
      go_ret
      exact ⟨rfl, HB.out⟩
    · have D1 := hid (C1 _ h1)
      have D2 := hid (C2 _ h2)
      clear hV hn h1 h2 C1 C2
      go_enter Tryd.func18, Tryd.ntmps18
      go_wp2_with (first
        | (go_at_call 17; with_reducible refine Calls.mono (D1.out.call _ (Below.refl _ _)) ?_; rintro e w2 ⟨rfl, hw⟩; replace hw := hw.symm; subst hw; clear D1)
        | (go_at_call 17; with_reducible refine Calls.mono (D2.out.call _ (Below.refl _ _)) ?_; rintro e w2 ⟨rfl, hw⟩; replace hw := hw.symm; subst hw)
        | (go_at_call 30; with_reducible refine Calls.mono HP.out ?_; rintro e w2 ⟨rfl, hb⟩; have H2 := hid (via (w := w) HB.out hb); clear hb))
      go_ret
      exact ⟨rfl, H2.out⟩
  by_cases e12 : op = 12
  · subst e12
    have C := hid (near_at (v := allB (bnds 12) p) hV 0 4 (S := 0) (T := 4) rfl rfl (by decide) (by rw [hn]; decide) (-1048576) 1048576 rfl)
    clear hV hn
    go_enter Tryd.func18, Tryd.ntmps18
    go_wp2_with (go_at_call 17; with_reducible refine Calls.mono (C.out.call _ (Below.refl _ _)) ?_; rintro e w2 ⟨rfl, hw⟩; replace hw := hw.symm; subst hw)
    go_ret
    exact ⟨rfl, HB.out⟩
  · have eb : allB (bnds op) p = true := by unfold bnds; simp [e1, e2, e3, e4, e5, e6, e7, e8, e10, e11, e12, allB]
    rw [eb]
    clear eb hV hn
    go_enter Tryd.func18, Tryd.ntmps18
    go_wp2
    go_ret
    exact ⟨rfl, HB.out⟩
end Go.Proofs.YtleclkjinkbebaaDoor
