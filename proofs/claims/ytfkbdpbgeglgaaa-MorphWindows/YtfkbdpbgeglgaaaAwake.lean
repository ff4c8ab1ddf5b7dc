/- The law's own answers that the document fixes: contracts. -/
import Derived.Test.YtfkbdpbgeglgaaaEqX
import Derived.Test.YtfkbdpbgeglgaaaSameB
import Derived.BigQuiet
import Derived.Deep.QuietTactic
namespace Go.Proofs.Ytfkbdpbgeglgaaa
open Num Go.RowKit
set_option linter.unusedVariables false
set_option linter.unusedSimpArgs false
attribute [local go_sem ↓] eqX

def oneR : R := ⟨0, 0, 1, 1⟩
theorem one_img (p : X) : img oneR (fun _ _ => p) = [p] := by unfold img oneR wid hei; rfl
def nine : X := ⟨9, 9, 9, 9⟩
theorem half_lit {a b c d : Int} (h : (-33600000 ≤ a ∧ a ≤ 33600000) ∧ (-33600000 ≤ b ∧ b ≤ 33600000) ∧ (-33600000 ≤ c ∧ c ≤ 33600000) ∧ (-33600000 ≤ d ∧ d ≤ 33600000)) : Half ⟨a, b, c, d⟩ := h
theorem nine_byte : byteX nine := by unfold byteX nine; decide
theorem boxA (ao : Option Addr) (m g off : Nat) (w : World) (hV : Vx w ao 1 m g off [nine]) :
    Calls Try.prog 14 #[.agg #[.int .i64 0, .int .i64 0, .int .i64 1, .int .i64 1, .slice ao 1 m], .agg #[.int .i64 (-2), .int .i64 0, .int .i64 2, .int .i64 1], .int .i64 1, .int .i64 0] w fun e w' => RetB w.heap.size w' e ⟨-2, 0, 2, 1⟩ [noX, nine, nine, nine] ∧ Below w.heap.size w w' := by
  have h := most_any oneR ao 1 m g off (fun _ _ => nine) ⟨-2, 0, 2, 1⟩ 1 0 w (by decide) (by omega) (by rw [one_img]; exact hV) (fun _ _ => nine_byte) (half_lit (by omega)) (by decide) (by omega) (by omega)
  rw [show orN ⟨-2, 0, 2, 1⟩ = ⟨-2, 0, 2, 1⟩ by decide, show img ⟨-2, 0, 2, 1⟩ (morX false (atX oneR fun _ _ => nine) 1 0) = [noX, nine, nine, nine] by decide] at h
  exact h
theorem boxC (ao : Option Addr) (m g off : Nat) (w : World) (hV : Vx w ao 1 m g off [nine]) :
    Calls Try.prog 12 #[.agg #[.int .i64 0, .int .i64 0, .int .i64 1, .int .i64 1, .slice ao 1 m], .agg #[.int .i64 (-2), .int .i64 0, .int .i64 2, .int .i64 1], .int .i64 1, .int .i64 0] w fun e w' => RetB w.heap.size w' e ⟨-2, 0, 2, 1⟩ [noX, noX, noX, noX] ∧ Below w.heap.size w w' := by
  have h := least_any oneR ao 1 m g off (fun _ _ => nine) ⟨-2, 0, 2, 1⟩ 1 0 w (by decide) (by omega) (by rw [one_img]; exact hV) (fun _ _ => nine_byte) (half_lit (by omega)) (by decide) (by omega) (by omega)
  rw [show orN ⟨-2, 0, 2, 1⟩ = ⟨-2, 0, 2, 1⟩ by decide, show img ⟨-2, 0, 2, 1⟩ (morX true (atX oneR fun _ _ => nine) 1 0) = [noX, noX, noX, noX] by decide] at h
  exact h
theorem len4 {p q r t : X} {n : Nat} (h : [p, q, r, t].length = n) : n = 4 := by simpa using h.symm

set_option maxRecDepth 100000 in
set_option maxHeartbeats 4000000 in
theorem awake_any (w : World) : Calls Try.prog 9 #[] w fun e w' => e = .returned (.bool true) ∧ Below w.heap.size w w' := by
  have HN : Hid (Vx ((((w.alloc (.cells #[.int .u8 9, .int .u8 9, .int .u8 9, .int .u8 9] 33)).alloc (.cells #[.int .u8 9, .int .u8 9, .int .u8 9, .int .u8 9] 33)).alloc (.cells #[.int .i64 0, .int .i64 0, .int .i64 1, .int .i64 1, .slice (some ⟨w.heap.size + 1, 0, none⟩) 1 1] 26)).alloc (.cells #[.int .i64 (-2), .int .i64 0, .int .i64 2, .int .i64 1] 23)) (some ⟨w.heap.size + 1, 0, none⟩) 1 1 (w.heap.size + 1) 0 [nine] ∧ Rc.Has4 ((((w.alloc (.cells #[.int .u8 9, .int .u8 9, .int .u8 9, .int .u8 9] 33)).alloc (.cells #[.int .u8 9, .int .u8 9, .int .u8 9, .int .u8 9] 33)).alloc (.cells #[.int .i64 0, .int .i64 0, .int .i64 1, .int .i64 1, .slice (some ⟨w.heap.size + 1, 0, none⟩) 1 1] 26)).alloc (.cells #[.int .i64 (-2), .int .i64 0, .int .i64 2, .int .i64 1] 23)) w.heap.size (.int .u8 9) (.int .u8 9) (.int .u8 9) (.int .u8 9) ∧ Has5 ((((w.alloc (.cells #[.int .u8 9, .int .u8 9, .int .u8 9, .int .u8 9] 33)).alloc (.cells #[.int .u8 9, .int .u8 9, .int .u8 9, .int .u8 9] 33)).alloc (.cells #[.int .i64 0, .int .i64 0, .int .i64 1, .int .i64 1, .slice (some ⟨w.heap.size + 1, 0, none⟩) 1 1] 26)).alloc (.cells #[.int .i64 (-2), .int .i64 0, .int .i64 2, .int .i64 1] 23)) (w.heap.size + 1 + 1) ⟨0, 0, 1, 1⟩ (some ⟨w.heap.size + 1, 0, none⟩) 1 1 ∧ Rc.Has4 ((((w.alloc (.cells #[.int .u8 9, .int .u8 9, .int .u8 9, .int .u8 9] 33)).alloc (.cells #[.int .u8 9, .int .u8 9, .int .u8 9, .int .u8 9] 33)).alloc (.cells #[.int .i64 0, .int .i64 0, .int .i64 1, .int .i64 1, .slice (some ⟨w.heap.size + 1, 0, none⟩) 1 1] 26)).alloc (.cells #[.int .i64 (-2), .int .i64 0, .int .i64 2, .int .i64 1] 23)) (w.heap.size + 1 + 1 + 1) (.int .i64 (-2)) (.int .i64 0) (.int .i64 2) (.int .i64 1) ∧ Below w.heap.size w ((((w.alloc (.cells #[.int .u8 9, .int .u8 9, .int .u8 9, .int .u8 9] 33)).alloc (.cells #[.int .u8 9, .int .u8 9, .int .u8 9, .int .u8 9] 33)).alloc (.cells #[.int .i64 0, .int .i64 0, .int .i64 1, .int .i64 1, .slice (some ⟨w.heap.size + 1, 0, none⟩) 1 1] 26)).alloc (.cells #[.int .i64 (-2), .int .i64 0, .int .i64 2, .int .i64 1] 23))) := by
    have hn := (ox_news (w := w.alloc (.cells #[.int .u8 9, .int .u8 9, .int .u8 9, .int .u8 9] 33)) (lo := 0) (Nat.zero_le _) [nine] (by simp) 33).v
    rw [show (w.alloc (.cells #[.int .u8 9, .int .u8 9, .int .u8 9, .int .u8 9] 33)).heap.size = w.heap.size + 1 by simp] at hn
    exact ⟨(hn.below ((Below.refl _ _).alloc (Nat.le_refl _) _)).below ((Below.refl _ _).alloc (Nat.le_refl _) _), (((Rc.Has4.new rfl _ _ _ _ _).alloc _).alloc _).alloc _, (Has5.new (by simp) _ _ _ _ _ _ _ _).alloc _, Rc.Has4.new (by simp) _ _ _ _ _, ((((Below.refl _ _).alloc (Nat.le_refl _) _).alloc (by simp) _).alloc (by simp; omega) _).alloc (by simp; omega) _⟩
  have c2 : eqB 9 9 9 9 9 9 9 9 = true := by decide
  have c4 : eqB 0 0 0 0 0 0 0 0 = true := by decide
  have c5 : eqB noX.c0 noX.c1 noX.c2 noX.c3 0 0 0 0 = true := by decide
  have c6 : eqB nine.c0 nine.c1 nine.c2 nine.c3 9 9 9 9 = true := by decide
  obtain ⟨b0, b1, b2, b3, b4, bf⟩ := HN.out.2.2.1
  obtain ⟨d0, d1, d2, d3, df⟩ := HN.out.2.2.2.1
  go_enter Try.func9, Try.ntmps9
  go_wp2_with (first
    | (go_at_call 14; with_reducible refine Calls.mono (boxA _ 1 _ _ _ HN.out.1) ?_; rintro e w2 ⟨hr, hb2⟩; obtain ⟨bo, n2, m2, g2, off2, rfl, hO2⟩ := retB hr; have hn2 := len4 (vx_len hO2.v); subst hn2; have hal := (Below.refl w2.heap.size w2).alloc (Nat.le_refl _) (.cells #[.int .i64 (-2), .int .i64 0, .int .i64 2, .int .i64 1, .slice bo 4 m2] 26); have HB2 := hid (Rc.via hb2 hal); have HV2 := hid (hO2.v.below hal); have H52 := hid (Has5.new (W := w2) (k := w2.heap.size) rfl (-2) 0 2 1 bo 4 m2 26); clear hr hO2 hb2 hal b0 b1 b2 b3 b4 bf d0 d1 d2 d3 df; obtain ⟨b0, b1, b2, b3, b4, bf⟩ := HN.out.2.2.1.below HB2.out; obtain ⟨d0, d1, d2, d3, df⟩ := HN.out.2.2.2.1.below HB2.out)
    | (go_at_call 12; with_reducible refine Calls.mono (boxC _ 1 _ _ _ (HN.out.1.below HB2.out)) ?_; rintro e w4 ⟨hr, hb4⟩; obtain ⟨co, n4, m4, g4, off4, rfl, hO4⟩ := retB hr; have hn4 := len4 (vx_len hO4.v); subst hn4; have HB4 := hid hb4; have HO4 := hid hO4.v; clear hr hO4 hb4 b0 b1 b2 b3 b4 bf d0 d1 d2 d3 df))
  have hba : Below w4.heap.size w4 (w4.alloc (.cells #[.int .i64 (-2), .int .i64 0, .int .i64 2, .int .i64 1, .slice co 4 m4] 26)) := (Below.refl _ _).alloc (Nat.le_refl _) _
  have hbb := Rc.via HB4.out hba
  have HBB := hid (Rc.via HN.out.2.2.2.2 (Rc.via HB2.out hbb))
  obtain ⟨-, -, -, -, b4, -⟩ := H52.out.below hbb
  obtain ⟨-, -, -, -, f4, -⟩ := Has5.new (W := w4) (k := w4.heap.size) rfl (-2) 0 2 1 co 4 m4 26
  obtain ⟨t0, t1, t2, t3, -⟩ := HN.out.2.1.below (Rc.via HB2.out hbb)
  obtain ⟨rfl, p00, p01, p02, p03⟩ := vx_at0 (HV2.out.below hbb)
  obtain ⟨-, p10, p11, p12, p13⟩ := vx_at (HV2.out.below hbb) (i := 1) rfl
  obtain ⟨-, p20, p21, p22, p23⟩ := vx_at (HV2.out.below hbb) (i := 2) rfl
  obtain ⟨-, p30, p31, p32, p33⟩ := vx_at (HV2.out.below hbb) (i := 3) rfl
  obtain ⟨rfl, r00, r01, r02, r03⟩ := vx_at0 (HO4.out.below hba)
  obtain ⟨-, r20, r21, r22, r23⟩ := vx_at (HO4.out.below hba) (i := 2) rfl
  clear hba hbb
  go_quiet (fail)
  go_wp2
  go_ret
  exact ⟨rfl, below_drewN HBB.out _⟩
end Go.Proofs.Ytfkbdpbgeglgaaa
