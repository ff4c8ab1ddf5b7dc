/- What is wrong with a node: the contract. -/
import Derived.Test.YtleclkjinkbebaaArity
import Derived.Test.YtleclkjinkbebaaJumps
namespace Go.Proofs.Ytleclkjinkbebaa
open Num Go.RowKit
set_option linter.unusedVariables false
set_option linter.unusedSimpArgs false

/-- a node that lies in a block of its own -/
structure Nb (w : World) (k : Nat) (op : Int) (ai : Option Addr) (ni ci : Nat) (ap : Option Addr) (np cp : Nat) : Prop where
  c0 : w.cell? ⟨k, 0, none⟩ = some (.int .i64 op)
  c1 : w.cell? ⟨k, 1, none⟩ = some (.slice ai ni ci)
  c2 : w.cell? ⟨k, 2, none⟩ = some (.slice ap np cp)
theorem Nb.below {w w' : World} {k : Nat} {op : Int} {ai : Option Addr} {ni ci : Nat} {ap : Option Addr} {np cp : Nat} (h : Nb w k op ai ni ci ap np cp) (hb : Below w.heap.size w w') : Nb w' k op ai ni ci ap np cp := ⟨cell_below hb h.c0, cell_below hb h.c1, cell_below hb h.c2⟩
theorem nb_new (w : World) (op : Int) (ai : Option Addr) (ni ci : Nat) (ap : Option Addr) (np cp : Nat) (t : TypeId) : Nb (w.alloc (.cells #[.int .i64 op, .slice ai ni ci, .slice ap np cp] t)) w.heap.size op ai ni ci ap np cp :=
  ⟨World.cell?_alloc_new w _ _ 0, World.cell?_alloc_new w _ _ 1, World.cell?_alloc_new w _ _ 2⟩
theorem inp_step {l : List Int} {k : Nat} {m count : Int} (h : l[k]? = some m) : (l.drop k).all (inpB count) = (inpB count m && (l.drop (k + 1)).all (inpB count)) := by
  obtain ⟨hk, rfl⟩ := List.getElem?_eq_some_iff.1 h
  rw [List.drop_eq_getElem_cons hk]; rfl
theorem allB_step {fs : List Fn1} {k : Nat} {f : Fn1} {p : List Int} (h : fs[k]? = some f) : allB (fs.drop k) p = (f p && allB (fs.drop (k + 1)) p) := by
  obtain ⟨hk, rfl⟩ := List.getElem?_eq_some_iff.1 h
  rw [List.drop_eq_getElem_cons hk]; rfl
theorem inp_yes {count m : Int} (h : m = -1 ∨ (0 ≤ m ∧ m < count)) : inpB count m = true := by unfold inpB; rcases h with h | ⟨h1, h2⟩ <;> simp_all
theorem inp_no {count m : Int} (h1 : ¬ m = -1) (h2 : ¬ (0 ≤ m ∧ m < count)) : inpB count m = false := by
  unfold inpB
  simp only [Bool.or_eq_false_iff, Bool.and_eq_false_iff, decide_eq_false_iff_not]
  omega
theorem place_b {m count : Int} {v : Bool} (h : (decide (0 ≤ m) && decide (m < count)) = v) (w : World) : Calls Try.prog 13 #[.int .i64 m, .int .i64 count] w fun e w' => e = .returned (.bool v) ∧ w' = w := by subst h; exact isPlace_any m count w

set_option maxRecDepth 100000 in
set_option maxHeartbeats 4000000 in
theorem one_any (op : Int) (ai : Option Addr) (ni ci bi oi : Nat) (l : List Int) (ap : Option Addr) (np cp bp ob : Nat) (p : List Int) (count : Int) (w : World) (hi : Vi w ai ni ci bi oi l) (hp : Vi w ap np cp bp ob p) :
    Calls Try.prog 10 #[.agg #[.int .i64 op, .slice ai ni ci, .slice ap np cp], .int .i64 count] w fun e w' => e = .returned (.int .i64 (oneI op l p count)) ∧ Below w.heap.size w w' := by
  have hb0 : Below w.heap.size w (w.alloc (.cells #[.int .i64 op, .slice ai ni ci, .slice ap np cp] 31)) := (Below.refl _ _).alloc (Nat.le_refl _) _
  have H0 := hid (And.intro (nb_new w op ai ni ci ap np cp 31) (And.intro hb0 (And.intro (hi.below hb0) (hp.below hb0))))
  have hil := vi_len hi
  have hpl := vi_len hp
  have hni := vz_small hi
  have hnp := vz_small hp
  obtain ⟨a, ha⟩ : ∃ a, a = leastI op := ⟨_, rfl⟩
  obtain ⟨b, hb⟩ : ∃ b, b = mostI op := ⟨_, rfl⟩
  obtain ⟨pn, hpn⟩ : ∃ pn, pn = parI op := ⟨_, rfl⟩
  obtain ⟨kb, hkb⟩ : ∃ kb, kb = kindB op := ⟨_, rfl⟩
  have HA : Hid (arI op = .tuple #[.int .i64 a, .int .i64 b, .int .i64 (pn : Int), .bool kb]) := by show arI op = _; rw [ha, hb, hpn, hkb]; rfl
  have HO : Hid (oneI op l p count = if kb = false then 1 else if (ni : Int) < a ∨ b < (ni : Int) ∨ np ≠ pn then 7 else if l.all (inpB count) = false then 8 else if allB (bnds op) p = false then 3 else 0) := by
    show oneI op l p count = _
    unfold oneI
    rw [ha, hb, hpn, hkb, hil, hpl]
  have HL := hid (And.intro hil hpl)
  have HP := hid hpn
  rw [HO.out]
  clear ha hb hpn hkb hil hpl hb0 hi hp
  cases kb
  · go_enter Try.func10, Try.ntmps10
    go_wp2
    refine wp_scope_one (by rfl) ?_
    intro Q1 hg0 hgn
    go_wp2_with (go_at_call 9; with_reducible refine Calls.mono (arity_any _ _) ?_; rintro e w1 ⟨rfl, hb⟩; rw [HA.out]; have H1 := hid (via (w := w) H0.out.2.1 hb); clear hb)
    go_step3
    refine hg0 _ _ ?_
    intro Q2 hq2
    go_wp2
    refine hq2 _ _ _ (by intro l h; cases h) ?_
    go_ret
    exact ⟨rfl, H1.out⟩
  by_cases h1 : (ni : Int) < a
  · rw [if_neg (by simp), if_pos (Or.inl h1)]
    go_enter Try.func10, Try.ntmps10
    go_wp2
    refine wp_scope_one (by rfl) ?_
    intro Q1 hg0 hgn
    go_wp2_with (go_at_call 9; with_reducible refine Calls.mono (arity_any _ _) ?_; rintro e w1 ⟨rfl, hb⟩; rw [HA.out]; have H1 := hid (via (w := w) H0.out.2.1 hb); obtain ⟨x0, x1, x2⟩ := H0.out.1.below hb; clear hb)
    go_step3
    refine hg0 _ _ ?_
    intro Q2 hq2
    go_wp2
    refine hq2 _ _ _ (by intro l h; cases h) ?_
    go_ret
    exact ⟨rfl, H1.out⟩
  by_cases h2 : b < (ni : Int)
  · rw [if_neg (by simp), if_pos (Or.inr (Or.inl h2))]
    go_enter Try.func10, Try.ntmps10
    go_wp2
    refine wp_scope_one (by rfl) ?_
    intro Q1 hg0 hgn
    go_wp2_with (go_at_call 9; with_reducible refine Calls.mono (arity_any _ _) ?_; rintro e w1 ⟨rfl, hb⟩; rw [HA.out]; have H1 := hid (via (w := w) H0.out.2.1 hb); obtain ⟨x0, x1, x2⟩ := H0.out.1.below hb; clear hb)
    go_step3
    refine hg0 _ _ ?_
    intro Q2 hq2
    go_wp2
    refine hq2 _ _ _ (by intro l h; cases h) ?_
    go_ret
    exact ⟨rfl, H1.out⟩
  by_cases h3 : np = pn
  · have HQ : Hid ((if (true : Bool) = false then (1 : Int) else if (ni : Int) < a ∨ b < (ni : Int) ∨ np ≠ pn then 7 else if l.all (inpB count) = false then 8 else if allB (bnds op) p = false then 3 else 0) = if l.all (inpB count) = false then 8 else if allB (bnds op) p = false then 3 else 0) := by
      show (if (true : Bool) = false then (1 : Int) else _) = _
      rw [if_neg (by simp), if_neg (by omega)]
    rw [HQ.out]
    clear HQ HO
    subst h3
    obtain ⟨X, hX⟩ : ∃ X : Int, X = if l.all (inpB count) = false then 8 else if allB (bnds op) p = false then 3 else 0 := ⟨_, rfl⟩
    rw [← hX]
    have HX := hid hX
    clear hX
    go_enter Try.func10, Try.ntmps10
    go_wp2
    refine wp_scope_one (by rfl) ?_
    intro Q1 hg0 hgn
    go_wp2_with (go_at_call 9; with_reducible refine Calls.mono (arity_any _ _) ?_; rintro e w1 ⟨rfl, hb⟩; rw [HA.out]; have H1 := hid (And.intro (H0.out.1.below hb) (And.intro (via (w := w) H0.out.2.1 hb) (And.intro (H0.out.2.2.1.below hb) (H0.out.2.2.2.below hb)))); obtain ⟨x0, x1, x2⟩ := H0.out.1.below hb; clear hb)
    go_loopg [46] ni (fun g x46 wr => ∃ k : Nat, k ≤ ni ∧ g = ni - k ∧ x46 = .int .i64 k ∧ w1 = wr ∧ (l.drop k).all (inpB count) = l.all (inpB count))
    case atStart => exact ⟨0, Nat.zero_le _, rfl, rfl, rfl, rfl⟩
    case round =>
      obtain ⟨k, hk, rfl, rfl, rfl, hS⟩ := hrel
      by_cases hlt : k < ni
      · have hlz : (k : Int) < (ni : Int) := by omega
        obtain ⟨m, hm⟩ : ∃ s, l[k]? = some s := ⟨_, List.getElem?_eq_getElem (by rw [HL.out.1]; exact hlt)⟩
        rw [inp_step hm] at hS
        have HS := hid hS
        obtain ⟨rfl, c0⟩ := vi_at H1.out.2.2.1 hm
        clear hS hm
        by_cases e1 : m = -1
        · go_wp2
          go_roundg (ni - (k + 1))
          case measure => omega
          case rel => exact ⟨k + 1, hlt, rfl, by simp, rfl, by rw [← HS.out, inp_yes (Or.inl e1)]; rfl⟩
        · by_cases e2 : 0 ≤ m ∧ m < count
          · have hpl : (decide (0 ≤ m) && decide (m < count)) = true := by simp [e2.1, e2.2]
            have HPL := hid hpl
            clear hpl
            go_wp2_with (go_at_call 13; with_reducible refine Calls.mono (place_b HPL.out _) ?_; rintro e w2 ⟨rfl, hw⟩; replace hw := hw.symm; subst hw)
            go_roundg (ni - (k + 1))
            case measure => omega
            case rel => exact ⟨k + 1, hlt, rfl, by simp, rfl, by rw [← HS.out, inp_yes (Or.inr e2)]; rfl⟩
          · have hpl : (decide (0 ≤ m) && decide (m < count)) = false := by simp only [Bool.and_eq_false_iff, decide_eq_false_iff_not]; omega
            have HPL := hid hpl
            have HE := hid e2
            clear hpl e2
            go_wp2_with (go_at_call 13; with_reducible refine Calls.mono (place_b HPL.out _) ?_; rintro e w2 ⟨rfl, hw⟩; replace hw := hw.symm; subst hw)
            go_step3
            refine hg0 _ _ ?_
            intro Q2 hq2
            go_wp2
            refine hq2 _ _ _ (by intro l h; cases h) ?_
            go_ret
            exact ⟨ret_int (by rw [HX.out, ← HS.out, inp_no e1 HE.out]; rfl), H1.out.2.1⟩
      · obtain rfl : k = ni := by omega
        rw [List.drop_eq_nil_of_le (by rw [HL.out.1]; exact Nat.le_refl _)] at hS
        have HX1 : Hid (X = if allB (bnds op) p = false then 3 else 0) := by show X = _; rw [HX.out, if_neg (by rw [← hS]; simp)]
        clear hS
        go_wp2_with (go_at_call 15; with_reducible refine Calls.mono (bounds_any _ _) ?_; rintro e w2 ⟨hr, hb⟩; obtain ⟨ao, m, c, b2, off, vs, rfl, hO, hF⟩ := retF hr; have hmx := vz_small hO.v; have H2 := hid (And.intro (H1.out.1.below hb) (And.intro (via (w := w) H1.out.2.1 hb) (And.intro (H1.out.2.2.2.below hb) (And.intro hO hF)))); clear hr hb hO hF)
        go_loopg [63] m (fun g x63 wr => ∃ (w9 : World) (j : Nat), w9 = wr ∧ j ≤ m ∧ g = m - j ∧ x63 = .int .i64 j ∧ Below w2.heap.size w2 w9 ∧ allB ((bnds op).drop j) p = allB (bnds op) p)
        case atStart => exact ⟨_, 0, rfl, Nat.zero_le _, rfl, rfl, Below.refl _ _, rfl⟩
        case round =>
          obtain ⟨w9, j, rfl, hj, rfl, rfl, hB, hS⟩ := hrel
          have HB := hid hB
          have hml := fl_count H2.out.2.2.2.1 H2.out.2.2.2.2
          have HM := hid hml
          clear hml
          by_cases hlt : j < m
          · have hlz : (j : Int) < (m : Int) := by omega
            obtain ⟨f, hf⟩ : ∃ s, (bnds op)[j]? = some s := ⟨_, List.getElem?_eq_getElem (by rw [← HM.out]; exact hlt)⟩
            obtain ⟨v, hv⟩ : ∃ s, vs[j]? = some s := ⟨_, List.getElem?_eq_getElem (by rw [H2.out.2.2.2.2.len, ← HM.out]; exact hlt)⟩
            obtain ⟨q, caps, rfl, hF⟩ := H2.out.2.2.2.2.each j v f hv hf
            have ent := hF.ent
            have c0 := (H2.out.2.2.2.1.below hB).v.lies j _ hv
            obtain rfl := H2.out.2.2.2.1.v.addr (by have := H2.out.2.2.2.1.v.le; omega)
            obtain ⟨y0, y1, y2⟩ := H2.out.1.below hB
            have HF := hid (hF.but (But.of hB))
            have HPV := hid (H2.out.2.2.1.below hB)
            rw [allB_step hf] at hS
            have HS := hid hS
            unfold fvV at c0
            rw [← HP.out] at HF
            clear hF hB hS hf hv
            rcases hv : f p with _ | _
            · have HV := hid hv
              clear hv
              go_wp2_with (with_reducible refine Calls.mono (HF.out.call _ (But.refl _ _) _ _ _ _ _ HPV.out) ?_; rintro e w4 ⟨rfl, hb⟩; rw [HV.out]; have HB4 := hid (via (w := w2) HB.out hb); clear hb)
              go_step3
              refine hg0 _ _ ?_
              intro Q2 hq2
              go_wp2
              refine hq2 _ _ _ (by intro l h; cases h) ?_
              go_ret
              exact ⟨ret_int (by rw [HX1.out, ← HS.out, HV.out]; rfl), via (w := w) H2.out.2.1 HB4.out⟩
            · have HV := hid hv
              clear hv
              go_wp2_with (with_reducible refine Calls.mono (HF.out.call _ (But.refl _ _) _ _ _ _ _ HPV.out) ?_; rintro e w4 ⟨rfl, hb⟩; rw [HV.out]; have HB4 := hid (via (w := w2) HB.out hb); clear hb)
              go_roundg (m - (j + 1))
              case measure => omega
              case rel => exact ⟨_, j + 1, rfl, hlt, rfl, by simp, HB4.out, by rw [← HS.out, HV.out]; rfl⟩
          · obtain rfl : j = m := by omega
            rw [List.drop_eq_nil_of_le (by rw [← HM.out]; exact Nat.le_refl _)] at hS
            have HX2 : Hid (X = 0) := by show X = _; rw [HX1.out, if_neg (by rw [← hS]; simp [allB])]
            clear hS hB
            go_wp2
            refine hgn _ _ _ (by intro l h; cases h) ?_
            go_ret
            exact ⟨ret_int HX2.out.symm, via (w := w) H2.out.2.1 HB.out⟩
  · have h3z : ¬ ((np : Int) = (pn : Int)) := by omega
    have h3b : ((np : Int) != (pn : Int)) = true := by simp [bne, h3z]
    rw [if_neg (by simp), if_pos (Or.inr (Or.inr h3))]
    go_enter Try.func10, Try.ntmps10
    go_wp2
    refine wp_scope_one (by rfl) ?_
    intro Q1 hg0 hgn
    go_wp2_with (go_at_call 9; with_reducible refine Calls.mono (arity_any _ _) ?_; rintro e w1 ⟨rfl, hb⟩; rw [HA.out]; have H1 := hid (via (w := w) H0.out.2.1 hb); obtain ⟨x0, x1, x2⟩ := H0.out.1.below hb; clear hb)
    go_step3
    refine hg0 _ _ ?_
    intro Q2 hq2
    go_wp2
    refine hq2 _ _ _ (by intro l h; cases h) ?_
    go_ret
    exact ⟨rfl, H1.out⟩
end Go.Proofs.Ytleclkjinkbebaa
