/- What is wrong with a node, and with a filter, by the document: contracts. -/
import Derived.Test.YtleclkjinkbebaaDoorRefs3
import Derived.Test.YtleclkjinkbebaaDoorRefRound
namespace Go.Proofs.YtleclkjinkbebaaDoor
open Num Go.RowKit
set_option linter.unusedVariables false
set_option linter.unusedSimpArgs false

theorem refArity_v {op : Int} {v : Value} (h : arI op = v) {w : World} (hT : Tabs w) : Calls Tryd.prog 7 #[.int .i64 op] w fun e w' => e = .returned v ∧ Below w.heap.size w w' := by
  rw [← h]; exact refArity_any op w hT
theorem near_inp {l : List Int} {count : Int} (h0 : 0 ≤ count) : nearB l 0 l.length (-1) (count - 1) = l.all (inpB count) := by
  rw [Bool.eq_iff_iff, nearB_iff, List.all_eq_true]
  constructor
  · intro h m hm
    obtain ⟨i, hi⟩ := List.getElem?_of_mem hm
    have hlt := (List.getElem?_eq_some_iff.1 hi).1
    have hn : nth l (0 + i) = m := by rw [Nat.zero_add]; unfold nth; rw [List.getD_eq_getElem?_getD, hi]; rfl
    have := h i hlt
    rw [hn] at this
    exact inp_yes (by omega)
  · intro h i hi
    have hm : nth l (0 + i) ∈ l := by rw [Nat.zero_add]; exact List.mem_of_getElem? (nth_get hi)
    have := h _ hm
    unfold inpB at this
    simp only [Bool.or_eq_true, Bool.and_eq_true, decide_eq_true_eq] at this
    omega

set_option maxRecDepth 100000 in
set_option maxHeartbeats 4000000 in
theorem refOne_any (op : Int) (ai : Option Addr) (ni ci bi oi : Nat) (l : List Int) (ap : Option Addr) (np cp bp ob : Nat) (p : List Int) (count : Int) (w : World) (hT : Tabs w) (hi : Vi w ai ni ci bi oi l) (hp : Vi w ap np cp bp ob p) (h0 : 0 ≤ count) (h9 : count ≤ 1000) :
    Calls Tryd.prog 10 #[.agg #[.int .i64 op, .slice ai ni ci, .slice ap np cp], .int .i64 count] w fun e w' => e = .returned (.int .i64 (oneI op l p count)) ∧ Below w.heap.size w w' := by
  have hb0 : Below w.heap.size w (w.alloc (.cells #[.int .i64 op, .slice ai ni ci, .slice ap np cp] 28)) := (Below.refl _ _).alloc (Nat.le_refl _) _
  have H0 := hid (And.intro (nb_new w op ai ni ci ap np cp 28) (And.intro hb0 (And.intro (hi.below hb0) (And.intro (hp.below hb0) (hT.below hb0)))))
  have hil := vi_len hi
  have hpl := vi_len hp
  have hni := vz_small hi
  have hnp := vz_small hp
  obtain ⟨a, ha⟩ : ∃ a, a = leastI op := ⟨_, rfl⟩
  obtain ⟨b, hb⟩ : ∃ b, b = mostI op := ⟨_, rfl⟩
  obtain ⟨pn, hpn⟩ : ∃ pn, pn = parI op := ⟨_, rfl⟩
  obtain ⟨kb, hkb⟩ : ∃ kb, kb = kindB op := ⟨_, rfl⟩
  have HA : Hid (arI op = .tuple #[.int .i64 a, .int .i64 b, .int .i64 (pn : Int), .bool kb]) := by show arI op = _; rw [ha, hb, hpn, hkb]; rfl
  have HO : Hid (oneI op l p count = if kb = false then 1 else if (ni : Int) < a ∨ b < (ni : Int) ∨ np ≠ pn then 7 else if l.all (inpB count) = false then 8 else if allB (bnds op) p = false then 3 else 0) := by
    show oneI op l p count = _
    unfold oneI
    rw [ha, hb, hpn, hkb, hil, hpl]
  have HP := hid hpn
  have hnear := near_inp (l := l) h0
  rw [hil] at hnear
  have HN := hid hnear
  obtain ⟨X, hX⟩ : ∃ X, X = oneI op l p count := ⟨_, rfl⟩
  rw [← hX]
  rw [← hX] at HO
  clear ha hb hpn hkb hil hpl hb0 hi hp hT hX hnear
  cases kb
  · have HZ : Hid (X = 1) := by show X = 1; rw [HO.out, if_pos rfl]
    go_enter Tryd.func10, Tryd.ntmps10
    go_wp2_with (go_at_call 7; with_reducible refine Calls.mono (refArity_v HA.out H0.out.2.2.2.2) ?_; rintro e w1 ⟨rfl, hb⟩; have H1 := hid (via (w := w) H0.out.2.1 hb); clear hb)
    go_ret
    exact ⟨ret_int HZ.out.symm, H1.out⟩
  by_cases h1 : (ni : Int) < a
  · skip
    have HZ : Hid (X = 7) := by show X = 7; rw [HO.out, if_neg (by simp), if_pos (Or.inl h1)]
    go_enter Tryd.func10, Tryd.ntmps10
    go_wp2_with (go_at_call 7; with_reducible refine Calls.mono (refArity_v HA.out H0.out.2.2.2.2) ?_; rintro e w1 ⟨rfl, hb⟩; have HB1 := hid hb; have H1 := hid (via (w := w) H0.out.2.1 hb); obtain ⟨x0, x1, x2⟩ := H0.out.1.below hb; clear hb)
    go_ret
    exact ⟨ret_int HZ.out.symm, H1.out⟩
  by_cases h2 : b < (ni : Int)
  · skip
    have HZ : Hid (X = 7) := by show X = 7; rw [HO.out, if_neg (by simp), if_pos (Or.inr (Or.inl h2))]
    go_enter Tryd.func10, Tryd.ntmps10
    go_wp2_with (go_at_call 7; with_reducible refine Calls.mono (refArity_v HA.out H0.out.2.2.2.2) ?_; rintro e w1 ⟨rfl, hb⟩; have HB1 := hid hb; have H1 := hid (via (w := w) H0.out.2.1 hb); obtain ⟨x0, x1, x2⟩ := H0.out.1.below hb; clear hb)
    go_ret
    exact ⟨ret_int HZ.out.symm, H1.out⟩
  by_cases h3 : np = pn
  · have HQ : Hid (X = if l.all (inpB count) = false then 8 else if allB (bnds op) p = false then 3 else 0) := by
      show X = _
      rw [HO.out, if_neg (by simp), if_neg (by omega)]
    subst h3
    have hq : ¬ count < 0 := by omega
    have hpz : ((np : Int) != (np : Int)) = false := by simp
    have hcw : -9223372036854775808 ≤ count - 1 := by omega
    clear HO
    rcases hall : l.all (inpB count) with _ | _
    · have HZ : Hid (X = 8) := by show X = 8; rw [HQ.out, if_pos hall]
      have C := hid (near_at (v := false) H0.out.2.2.1 0 ni (S := 0) (T := (ni : Int)) rfl rfl (Nat.zero_le _) (Nat.le_refl _) (-1) (count - 1) (by rw [Nat.sub_zero, HN.out, hall]))
      clear hall
      go_enter Tryd.func10, Tryd.ntmps10
      go_wp2_with (first
        | (go_at_call 7; with_reducible refine Calls.mono (refArity_v HA.out H0.out.2.2.2.2) ?_; rintro e w1 ⟨rfl, hb⟩; have HB1 := hid hb; have H1 := hid (via (w := w) H0.out.2.1 hb); obtain ⟨x0, x1, x2⟩ := H0.out.1.below hb; clear hb)
        | (go_at_call 17; with_reducible refine Calls.mono (C.out.call _ HB1.out) ?_; rintro e w2 ⟨rfl, hw⟩; replace hw := hw.symm; subst hw))
      go_ret
      exact ⟨ret_int HZ.out.symm, H1.out⟩
    · have HQ2 : Hid (X = if allB (bnds op) p = false then 3 else 0) := by show X = _; rw [HQ.out, hall, if_neg (by simp)]
      have C := hid (near_at (v := true) H0.out.2.2.1 0 ni (S := 0) (T := (ni : Int)) rfl rfl (Nat.zero_le _) (Nat.le_refl _) (-1) (count - 1) (by rw [Nat.sub_zero, HN.out, hall]))
      clear hall
      rcases hbd : allB (bnds op) p with _ | _
      · have HZ : Hid (X = 3) := by show X = 3; rw [HQ2.out, if_pos hbd]
        have HD := hid hbd
        clear hbd
        go_enter Tryd.func10, Tryd.ntmps10
        go_wp2_with (first
          | (go_at_call 7; with_reducible refine Calls.mono (refArity_v HA.out H0.out.2.2.2.2) ?_; rintro e w1 ⟨rfl, hb⟩; have HB1 := hid hb; have H1 := hid (via (w := w) H0.out.2.1 hb); obtain ⟨x0, x1, x2⟩ := H0.out.1.below hb; clear hb)
          | (go_at_call 17; with_reducible refine Calls.mono (C.out.call _ HB1.out) ?_; rintro e w2 ⟨rfl, hw⟩; replace hw := hw.symm; subst hw)
          | (go_at_call 18; with_reducible refine Calls.mono (refBounds_any _ _ _ _ _ _ _ bp ob p _ (H0.out.2.2.2.1.below HB1.out) HP.out) ?_; rintro e w2 ⟨rfl, hb⟩; rw [HD.out]; have H2 := hid (via (w := w) H1.out hb); clear hb))
        go_ret
        exact ⟨ret_int HZ.out.symm, H2.out⟩
      · have HZ : Hid (X = 0) := by show X = 0; rw [HQ2.out, hbd, if_neg (by simp)]
        have HD := hid hbd
        clear hbd
        go_enter Tryd.func10, Tryd.ntmps10
        go_wp2_with (first
          | (go_at_call 7; with_reducible refine Calls.mono (refArity_v HA.out H0.out.2.2.2.2) ?_; rintro e w1 ⟨rfl, hb⟩; have HB1 := hid hb; have H1 := hid (via (w := w) H0.out.2.1 hb); obtain ⟨x0, x1, x2⟩ := H0.out.1.below hb; clear hb)
          | (go_at_call 17; with_reducible refine Calls.mono (C.out.call _ HB1.out) ?_; rintro e w2 ⟨rfl, hw⟩; replace hw := hw.symm; subst hw)
          | (go_at_call 18; with_reducible refine Calls.mono (refBounds_any _ _ _ _ _ _ _ bp ob p _ (H0.out.2.2.2.1.below HB1.out) HP.out) ?_; rintro e w2 ⟨rfl, hb⟩; rw [HD.out]; have H2 := hid (via (w := w) H1.out hb); clear hb))
        go_ret
        exact ⟨ret_int HZ.out.symm, H2.out⟩
  · have h3z : ¬ ((np : Int) = (pn : Int)) := by omega
    have h3b : ((np : Int) != (pn : Int)) = true := by simp [bne, h3z]
    have HZ : Hid (X = 7) := by show X = 7; rw [HO.out, if_neg (by simp), if_pos (Or.inr (Or.inr h3))]
    go_enter Tryd.func10, Tryd.ntmps10
    go_wp2_with (go_at_call 7; with_reducible refine Calls.mono (refArity_v HA.out H0.out.2.2.2.2) ?_; rintro e w1 ⟨rfl, hb⟩; have HB1 := hid hb; have H1 := hid (via (w := w) H0.out.2.1 hb); obtain ⟨x0, x1, x2⟩ := H0.out.1.below hb; clear hb)
    go_ret
    exact ⟨ret_int HZ.out.symm, H1.out⟩
end Go.Proofs.YtleclkjinkbebaaDoor
