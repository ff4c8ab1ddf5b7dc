/- What is wrong with a filter, by the document: the contract. -/
import Derived.Test.YtleclkjinkbebaaDoorRefs4
import Derived.Test.YtleclkjinkbebaaDoorLawB
namespace Go.Proofs.YtleclkjinkbebaaDoor
open Num Go.RowKit
set_option linter.unusedVariables false
set_option linter.unusedSimpArgs false

section
variable {w1 : World} {b1 o1 : Nat} {v1 : Value} {b2 o2 : Nat} {v2 : Value} {b3 o3 : Nat} {v3 : Value} {b4 o4 : Nat} {v4 : Value} {w' : World}
theorem refOne_s {op count x : Int} {ai : Option Addr} {ni ci bi oi : Nat} {l : List Int} {ap : Option Addr} {np cp bp ob : Nat} {p : List Int} (hT : Tabs w1) (hi : Vi w1 ai ni ci bi oi l) (hp : Vi w1 ap np cp bp ob p) (h0 : 0 ≤ count) (h9 : count ≤ 1000) (hx : oneI op l p count = x) (hs : S4 w1 b1 o1 v1 b2 o2 v2 b3 o3 v3 b4 o4 v4 w') :
    Calls Tryd.prog 10 #[.agg #[.int .i64 op, .slice ai ni ci, .slice ap np cp], .int .i64 count] w' fun e w2 => e = .returned (.int .i64 x) ∧ Below w'.heap.size w' w2 := by
  subst hx
  exact refOne_any op ai ni ci bi oi l ap np cp bp ob p count w' (hT.below hs.2) (hi.below hs.2) (hp.below hs.2) h0 h9
end
set_option maxRecDepth 100000 in
set_option maxHeartbeats 4000000 in
theorem refCheck_any (ao : Option Addr) (n c b off : Nat) (L : List Nv) (out : Int) (w : World) (hT : Tabs w) (h : Vn w ao n c b off L) (hf : Few n L) :
    Calls Tryd.prog 13 #[.agg #[.slice ao n c, .int .i64 out]] w fun e w' => e = .returned (.int .i64 (checkI L out)) ∧ Below w.heap.size w w' := by
  have hl := vn_len h
  have hn := vz_small h.z
  have hs0 := sg_new w ao n c out 35
  have H0 := hid (And.intro h (And.intro hf (And.intro hl hT)))
  have HS := hid hs0
  obtain ⟨X, hX⟩ : ∃ X, X = checkI L out := ⟨_, rfl⟩
  rw [← hX]
  have hX2 : X = if n = 0 ∨ 256 < n then 3 else if firstI (n : Int) L = 0 then (if 0 ≤ out ∧ out < (n : Int) then (if roundB (insL L) = true then 6 else 0) else 8) else firstI (n : Int) L := by
    rw [hX]; unfold checkI; rw [hl]
  have HY := hid hX2
  clear hX2 hX hf h hl hT hs0
  by_cases h1 : n = 0
  · subst h1
    have HZ : Hid (X = 3) := by show X = 3; rw [HY.out, if_pos (Or.inl rfl)]
    go_enter Tryd.func13, Tryd.ntmps13
    go_wp2
    go_ret
    exact ⟨ret_int HZ.out.symm, HS.out.2⟩
  have h1z : ¬ ((n : Int) < 1) := by omega
  by_cases h2 : 256 < n
  · have HZ : Hid (X = 3) := by show X = 3; rw [HY.out, if_pos (Or.inr h2)]
    have h2z : (256 : Int) < (n : Int) := by omega
    go_enter Tryd.func13, Tryd.ntmps13
    go_wp2
    go_ret
    exact ⟨ret_int HZ.out.symm, HS.out.2⟩
  have HZ : Hid (X = if firstI (n : Int) L = 0 then (if 0 ≤ out ∧ out < (n : Int) then (if roundB (insL L) = true then 6 else 0) else 8) else firstI (n : Int) L) := by
    show X = _; rw [HY.out, if_neg (by omega)]
  have h2z : ¬ (256 : Int) < (n : Int) := by omega
  clear HY
  go_enter Tryd.func13, Tryd.ntmps13
  go_wp2
  go_loopg [3] n (fun g x3 wr => ∃ (w9 : World) (k : Nat), w9 = wr ∧ k ≤ n ∧ g = n - k ∧ x3 = .int .i64 k ∧ Sg w ao n c out w9 ∧ firstI (n : Int) (L.drop k) = firstI (n : Int) L)
  case atStart => exact ⟨_, 0, rfl, Nat.zero_le _, rfl, rfl, HS.out, rfl⟩
  case round =>
    clear HS
    obtain ⟨w9, k, rfl, hk, rfl, rfl, hG, hS⟩ := hrel
    have HG := hid hG
    obtain ⟨⟨x0, x1⟩, -⟩ := id hG
    clear hG
    by_cases hlt : k < n
    · have hlz : (k : Int) < (n : Int) := by omega
      obtain ⟨v, hv⟩ : ∃ v, L[k]? = some v := ⟨_, List.getElem?_eq_getElem (by rw [H0.out.2.2.1]; exact hlt)⟩
      rw [first_step hv] at hS
      obtain ⟨rfl, ⟨c0, c1, c2⟩, g1, g2⟩ := vn_at (H0.out.1.below HG.out.2) hv
      obtain ⟨y, hy⟩ : ∃ y, y = nodeI (n : Int) v := ⟨_, rfl⟩
      rw [← hy] at hS
      have HE : Hid (oneI v.op v.l v.p (n : Int) = y) := hy.symm
      have HS := hid hS
      have HV := hid (And.intro g1 (And.intro g2 (H0.out.2.2.2.below HG.out.2)))
      have hn0 : (0 : Int) ≤ (n : Int) := by omega
      have hn9 : (n : Int) ≤ 1000 := by omega
      have hS4 : S4 w9 w.heap.size 0 (.slice (some ⟨b, off, none⟩) n c) b (off + k * 3) (.int .i64 v.op) b (off + k * 3 + 1) (.slice v.ai v.ni v.ci) b (off + k * 3 + 2) (.slice v.ap v.np v.cp) w9 := ⟨⟨x0, c0, c1, c2⟩, Below.refl _ _⟩
      clear hS hv g1 g2 hy
      go_wp2
      clear x0 x1 c0 c1 c2
      go_region_held3 (fun w' => (w'.cell? ⟨w.heap.size, 0, none⟩ = some (.slice (some ⟨b, off, none⟩) n c) ∧ w'.cell? ⟨b, off + k * 3, none⟩ = some (.int .i64 v.op) ∧ w'.cell? ⟨b, off + k * 3 + 1, none⟩ = some (.slice v.ai v.ni v.ci) ∧ w'.cell? ⟨b, off + k * 3 + 2, none⟩ = some (.slice v.ap v.np v.cp)) ∧ Below w9.heap.size w9 w') (repeat (first | with_reducible assumption | with_reducible refine s4_drew ?_ | with_reducible refine s4_below ?_ ‹_›)) ((go_at_call 10; with_reducible refine Calls.mono (refOne_s HV.out.2.2 HV.out.1 HV.out.2.1 hn0 hn9 HE.out (by with_reducible assumption)) ?_; rintro e w3 ⟨rfl, hb⟩))
      rename_i hh
      have HH := hid (sg_below HG.out hh.2)
      clear hh hS4
      by_cases e1 : y = 0
      · rw [if_pos e1] at HS
        go_wp2
        go_roundg (n - (k + 1))
        case measure => omega
        case rel => exact ⟨_, k + 1, rfl, hlt, rfl, by simp, HH.out, HS.out⟩
      · rw [if_neg e1] at HS
        go_wp2
        go_ret
        exact ⟨ret_int (by rw [HZ.out, ← HS.out, if_neg e1]), HH.out.2⟩
    · obtain rfl : k = n := by omega
      rw [List.drop_eq_nil_of_le (by rw [H0.out.2.2.1]; exact Nat.le_refl _)] at hS
      have HZ2 : Hid (X = if 0 ≤ out ∧ out < (k : Int) then (if roundB (insL L) = true then 6 else 0) else 8) := by
        show X = _; rw [HZ.out, if_pos (by rw [← hS]; rfl)]
      clear hS HZ
      by_cases e2 : out < 0
      · have HZ3 : Hid (X = 8) := by show X = 8; rw [HZ2.out, if_neg (by omega)]
        go_wp2
        go_ret
        exact ⟨ret_int HZ3.out.symm, HG.out.2⟩
      by_cases e3 : out < (k : Int)
      · have HZ3 : Hid (X = if roundB (insL L) = true then 6 else 0) := by show X = _; rw [HZ2.out, if_pos (by omega)]
        clear HZ2
        rcases hr : roundB (insL L) with _ | _
        · have HR := hid hr
          clear hr
          go_wp2_with (go_at_call 20; with_reducible refine Calls.mono (refRound_any _ _ _ _ _ L _ _ (H0.out.1.below HG.out.2) H0.out.2.1) ?_; rintro e w2 ⟨rfl, hb⟩; rw [HR.out]; have HB2 := hid (via (w := w) HG.out.2 hb); clear hb)
          go_ret
          exact ⟨ret_int (by rw [HZ3.out, HR.out]; rfl), HB2.out⟩
        · have HR := hid hr
          clear hr
          go_wp2_with (go_at_call 20; with_reducible refine Calls.mono (refRound_any _ _ _ _ _ L _ _ (H0.out.1.below HG.out.2) H0.out.2.1) ?_; rintro e w2 ⟨rfl, hb⟩; rw [HR.out]; have HB2 := hid (via (w := w) HG.out.2 hb); clear hb)
          go_ret
          exact ⟨ret_int (by rw [HZ3.out, HR.out]; rfl), HB2.out⟩
      · have HZ3 : Hid (X = 8) := by show X = 8; rw [HZ2.out, if_neg (by omega)]
        go_wp2
        go_ret
        exact ⟨ret_int HZ3.out.symm, HG.out.2⟩
end Go.Proofs.YtleclkjinkbebaaDoor
