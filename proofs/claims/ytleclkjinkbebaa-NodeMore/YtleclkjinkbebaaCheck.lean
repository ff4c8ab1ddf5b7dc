/- What is wrong with a filter: the contract. -/
import Derived.Test.YtleclkjinkbebaaOne
import Derived.Test.YtleclkjinkbebaaRound
namespace Go.Proofs.Ytleclkjinkbebaa
open Num Go.RowKit
set_option linter.unusedVariables false
set_option linter.unusedSimpArgs false

def nodeI (count : Int) (v : Nv) : Int := oneI v.op v.l v.p count
/-- the first node's fault -/
def firstI (count : Int) : List Nv → Int
  | [] => 0
  | v :: L => if nodeI count v = 0 then firstI count L else nodeI count v
def checkI (L : List Nv) (out : Int) : Int :=
  if L.length = 0 ∨ 256 < L.length then 3
  else if firstI (L.length : Int) L = 0 then (if 0 ≤ out ∧ out < (L.length : Int) then (if roundB (insL L) = true then 6 else 0) else 8)
  else firstI (L.length : Int) L
theorem first_step {L : List Nv} {k : Nat} {v : Nv} {count : Int} (h : L[k]? = some v) : firstI count (L.drop k) = if nodeI count v = 0 then firstI count (L.drop (k + 1)) else nodeI count v := by
  obtain ⟨hk, rfl⟩ := List.getElem?_eq_some_iff.1 h
  rw [List.drop_eq_getElem_cons hk]; rfl

set_option maxRecDepth 100000 in
set_option maxHeartbeats 4000000 in
theorem check_any (ao : Option Addr) (n c b off : Nat) (L : List Nv) (out : Int) (w : World) (h : Vn w ao n c b off L) (hf : Few n L) :
    Calls Try.prog 8 #[.agg #[.slice ao n c, .int .i64 out]] w fun e w' => e = .returned (.int .i64 (checkI L out)) ∧ Below w.heap.size w w' := by
  have hb0 : Below w.heap.size w (w.alloc (.cells #[.slice ao n c, .int .i64 out] 24)) := (Below.refl _ _).alloc (Nat.le_refl _) _
  have hl := vn_len h
  have hn := vz_small h.z
  have H0 := hid (And.intro (bx_new w ao n c out 24) (And.intro hb0 (And.intro (h.below hb0) (And.intro hf hl))))
  obtain ⟨X, hX⟩ : ∃ X, X = checkI L out := ⟨_, rfl⟩
  rw [← hX]
  have HX := hid hX
  clear hX hb0 hl h
  have hX2 : X = if n = 0 ∨ 256 < n then 3 else if firstI (n : Int) L = 0 then (if 0 ≤ out ∧ out < (n : Int) then (if roundB (insL L) = true then 6 else 0) else 8) else firstI (n : Int) L := by
    rw [HX.out]; unfold checkI; rw [H0.out.2.2.2.2]
  have HY := hid hX2
  clear hX2 HX hf
  by_cases h1 : n = 0
  · subst h1
    have HZ : Hid (X = 3) := by show X = 3; rw [HY.out, if_pos (Or.inl rfl)]
    go_enter Try.func8, Try.ntmps8
    go_wp2
    refine wp_scope_one (by rfl) ?_
    intro Q1 hg0 hgn
    go_wp2
    go_step3
    refine hg0 _ _ ?_
    intro Q2 hq2
    go_wp2
    refine hq2 _ _ _ (by intro l h; cases h) ?_
    go_ret
    exact ⟨ret_int HZ.out.symm, H0.out.2.1⟩
  by_cases h2 : 256 < n
  · have HZ : Hid (X = 3) := by show X = 3; rw [HY.out, if_pos (Or.inr h2)]
    have h2z : (256 : Int) < (n : Int) := by omega
    have h1z : ¬ ((n : Int) = 0) := by omega
    have h1b : ((n : Int) == 0) = false := by simp [h1]
    go_enter Try.func8, Try.ntmps8
    go_wp2
    refine wp_scope_one (by rfl) ?_
    intro Q1 hg0 hgn
    go_wp2
    go_step3
    refine hg0 _ _ ?_
    intro Q2 hq2
    go_wp2
    refine hq2 _ _ _ (by intro l h; cases h) ?_
    go_ret
    exact ⟨ret_int HZ.out.symm, H0.out.2.1⟩
  · have HZ : Hid (X = if firstI (n : Int) L = 0 then (if 0 ≤ out ∧ out < (n : Int) then (if roundB (insL L) = true then 6 else 0) else 8) else firstI (n : Int) L) := by
      show X = _; rw [HY.out, if_neg (by omega)]
    have h2z : ¬ (256 : Int) < (n : Int) := by omega
    have h1z : ¬ ((n : Int) = 0) := by omega
    have h1b : ((n : Int) == 0) = false := by simp [h1]
    clear HY
    go_enter Try.func8, Try.ntmps8
    go_wp2
    refine wp_scope_one (by rfl) ?_
    intro Q1 hg0 hgn
    go_wp2
    obtain ⟨w0, hw0⟩ : ∃ w0, w0 = w.alloc (.cells #[.slice ao n c, .int .i64 out] 24) := ⟨_, rfl⟩
    rw [← hw0] at H0 ⊢
    clear hw0
    go_loopg [19] n (fun g x19 wr => ∃ (w9 : World) (k : Nat), w9 = wr ∧ k ≤ n ∧ g = n - k ∧ x19 = .int .i64 k ∧ Below w0.heap.size w0 w9 ∧ firstI (n : Int) (L.drop k) = firstI (n : Int) L)
    case atStart => exact ⟨_, 0, rfl, Nat.zero_le _, rfl, rfl, Below.refl _ _, rfl⟩
    case round =>
      obtain ⟨w9, k, rfl, hk, rfl, rfl, hB, hS⟩ := hrel
      have HB := hid hB
      by_cases hlt : k < n
      · have hlz : (k : Int) < (n : Int) := by omega
        obtain ⟨v, hv⟩ : ∃ v, L[k]? = some v := ⟨_, List.getElem?_eq_getElem (by rw [H0.out.2.2.2.2]; exact hlt)⟩
        rw [first_step hv] at hS
        have HS := hid hS
        obtain ⟨rfl, ⟨c0, c1, c2⟩, g1, g2⟩ := vn_at (H0.out.2.2.1.below hB) hv
        have hba : Below w9.heap.size w9 (w9.alloc (.cells #[.int .i64 v.op, .slice v.ai v.ni v.ci, .slice v.ap v.np v.cp] 31)) := (Below.refl _ _).alloc (Nat.le_refl _) _
        have HG := hid (And.intro (g1.below hba) (And.intro (g2.below hba) (via (w := w0) hB hba)))
        clear hS hv hB g1 g2 hba
        by_cases e1 : nodeI (n : Int) v = 0
        · have HE := hid e1
          clear e1
          unfold nodeI at HE
          go_wp2_with (go_at_call 10; with_reducible refine Calls.mono (one_any _ _ _ _ v.bi v.oi v.l _ _ _ v.bp v.ob v.p _ _ HG.out.1 HG.out.2.1) ?_; rintro e w2 ⟨rfl, hb⟩; rw [HE.out]; have HB2 := hid (via (w := w0) HG.out.2.2 hb); clear hb)
          go_roundg (n - (k + 1))
          case measure => omega
          case rel => exact ⟨_, k + 1, rfl, hlt, rfl, by simp, HB2.out, by rw [← HS.out, if_pos (show nodeI (n : Int) v = 0 from HE.out)]⟩
        · obtain ⟨y, hy⟩ : ∃ y, y = nodeI (n : Int) v := ⟨_, rfl⟩
          rw [← hy] at e1
          have HE : Hid (oneI v.op v.l v.p (n : Int) = y) := hy.symm
          rw [if_neg (by rw [← hy]; exact e1), ← hy] at HS
          clear hy
          go_wp2_with (go_at_call 10; with_reducible refine Calls.mono (one_any _ _ _ _ v.bi v.oi v.l _ _ _ v.bp v.ob v.p _ _ HG.out.1 HG.out.2.1) ?_; rintro e w2 ⟨rfl, hb⟩; rw [HE.out]; have HB2 := hid (via (w := w0) HG.out.2.2 hb); clear hb)
          go_step3
          refine hg0 _ _ ?_
          intro Q2 hq2
          go_wp2
          refine hq2 _ _ _ (by intro l h; cases h) ?_
          go_ret
          exact ⟨ret_int (by rw [HZ.out, ← HS.out, if_neg e1]), via (w := w) H0.out.2.1 HB2.out⟩
      · obtain rfl : k = n := by omega
        rw [List.drop_eq_nil_of_le (by rw [H0.out.2.2.2.2]; exact Nat.le_refl _)] at hS
        have HZ2 : Hid (X = if 0 ≤ out ∧ out < (k : Int) then (if roundB (insL L) = true then 6 else 0) else 8) := by
          show X = _; rw [HZ.out, if_pos (by rw [← hS]; rfl)]
        obtain ⟨x0, x1⟩ := H0.out.1.below hB
        clear hS hB
        by_cases e2 : 0 ≤ out ∧ out < (k : Int)
        · have hpl : (decide (0 ≤ out) && decide (out < (k : Int))) = true := by simp [e2.1, e2.2]
          have HPL := hid hpl
          clear hpl
          have HZ3 : Hid (X = if roundB (insL L) = true then 6 else 0) := by show X = _; rw [HZ2.out, if_pos e2]
          clear e2
          rcases hr : roundB (insL L) with _ | _
          · have HR := hid hr
            clear hr
            go_wp2_with (first
              | (go_at_call 13; with_reducible refine Calls.mono (place_b HPL.out _) ?_; rintro e w2 ⟨rfl, hw⟩; replace hw := hw.symm; subst hw)
              | (go_at_call 14; with_reducible refine Calls.mono (round_any _ _ _ _ _ L _ _ (H0.out.2.2.1.below HB.out) H0.out.2.2.2.1) ?_; rintro e w2 ⟨rfl, hb⟩; rw [HR.out]; have HB2 := hid (via (w := w0) HB.out hb); clear hb))
            refine hgn _ _ _ (by intro l h; cases h) ?_
            go_ret
            exact ⟨ret_int (by rw [HZ3.out, HR.out]; rfl), via (w := w) H0.out.2.1 HB2.out⟩
          · have HR := hid hr
            clear hr
            go_wp2_with (first
              | (go_at_call 13; with_reducible refine Calls.mono (place_b HPL.out _) ?_; rintro e w2 ⟨rfl, hw⟩; replace hw := hw.symm; subst hw)
              | (go_at_call 14; with_reducible refine Calls.mono (round_any _ _ _ _ _ L _ _ (H0.out.2.2.1.below HB.out) H0.out.2.2.2.1) ?_; rintro e w2 ⟨rfl, hb⟩; rw [HR.out]; have HB2 := hid (via (w := w0) HB.out hb); clear hb))
            go_step3
            refine hg0 _ _ ?_
            intro Q2 hq2
            go_wp2
            refine hq2 _ _ _ (by intro l h; cases h) ?_
            go_ret
            exact ⟨ret_int (by rw [HZ3.out, HR.out]; rfl), via (w := w) H0.out.2.1 HB2.out⟩
        · have hpl : (decide (0 ≤ out) && decide (out < (k : Int))) = false := by simp only [Bool.and_eq_false_iff, decide_eq_false_iff_not]; omega
          have HPL := hid hpl
          have HE := hid e2
          clear hpl e2
          go_wp2_with (go_at_call 13; with_reducible refine Calls.mono (place_b HPL.out _) ?_; rintro e w2 ⟨rfl, hw⟩; replace hw := hw.symm; subst hw)
          go_step3
          refine hg0 _ _ ?_
          intro Q2 hq2
          go_wp2
          refine hq2 _ _ _ (by intro l h; cases h) ?_
          go_ret
          exact ⟨ret_int (by rw [HZ2.out, if_neg HE.out]), via (w := w) H0.out.2.1 HB.out⟩
end Go.Proofs.Ytleclkjinkbebaa
