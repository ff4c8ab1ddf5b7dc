/- The law's own answers that the document fixes: contracts. -/
import Derived.Test.YtbcgnnjkhgpkmaaBoxB
import Derived.Test.YtbcgnnjkhgpkmaaSameB
import Derived.BigQuiet
import Derived.Deep.QuietTactic
namespace Go.Proofs.Ytbcgnnjkhgpkmaa
open Num Go.RowKit
set_option linter.unusedVariables false
set_option linter.unusedSimpArgs false
attribute [local go_sem ↓] eqX

def oneR : R := ⟨0, 0, 1, 1⟩
theorem one_img (p : X) : img oneR (fun _ _ => p) = [p] := by unfold img oneR wid hei; rfl
set_option maxHeartbeats 1000000 in
theorem one_any (p : X) (w : World) : Calls Try.prog 17 #[pxV p] w fun e w' => RetB w.heap.size w' e oneR [p] ∧ Below w.heap.size w w' := by
  have hn := ox_news (w := ((w.alloc (.cells #[.int .u8 p.c0, .int .u8 p.c1, .int .u8 p.c2, .int .u8 p.c3] 32)).alloc (.cells #[.int .i64 0, .int .i64 0, .int .i64 1, .int .i64 1, .slice (some ⟨w.heap.size + 1 + 1, 0, none⟩) 1 1] 26))) (lo := w.heap.size) (by simp; omega) [p] (by simp) 32
  have hsz : ((w.alloc (.cells #[.int .u8 p.c0, .int .u8 p.c1, .int .u8 p.c2, .int .u8 p.c3] 32)).alloc (.cells #[.int .i64 0, .int .i64 0, .int .i64 1, .int .i64 1, .slice (some ⟨w.heap.size + 1 + 1, 0, none⟩) 1 1] 26)).heap.size = w.heap.size + 1 + 1 := by simp
  rw [hsz] at hn
  have HN := hid hn
  have HB : Hid (Below w.heap.size w (((w.alloc (.cells #[.int .u8 p.c0, .int .u8 p.c1, .int .u8 p.c2, .int .u8 p.c3] 32)).alloc (.cells #[.int .i64 0, .int .i64 0, .int .i64 1, .int .i64 1, .slice (some ⟨w.heap.size + 1 + 1, 0, none⟩) 1 1] 26)).alloc (.cells #[.int .u8 p.c0, .int .u8 p.c1, .int .u8 p.c2, .int .u8 p.c3] 32))) := (((Below.refl _ _).alloc (Nat.le_refl _) _).alloc (by simp) _).alloc (by simp; omega) _
  have hZ : Has5 (((w.alloc (.cells #[.int .u8 p.c0, .int .u8 p.c1, .int .u8 p.c2, .int .u8 p.c3] 32)).alloc (.cells #[.int .i64 0, .int .i64 0, .int .i64 1, .int .i64 1, .slice (some ⟨w.heap.size + 1 + 1, 0, none⟩) 1 1] 26)).alloc (.cells #[.int .u8 p.c0, .int .u8 p.c1, .int .u8 p.c2, .int .u8 p.c3] 32)) (w.heap.size + 1) ⟨0, 0, 1, 1⟩ (some ⟨w.heap.size + 1 + 1, 0, none⟩) 1 1 := (Has5.new (by simp) _ _ _ _ _ _ _ _).alloc _
  have HZ := hid hZ
  clear hn hZ hsz
  go_enter Try.func17, Try.ntmps17
  go_wp2
  obtain ⟨z0, z1, z2, z3, z4, zf⟩ := HZ.out
  refine bodyPost_ret (v := .agg #[.int .i64 0, .int .i64 0, .int .i64 1, .int .i64 1, .slice (some ⟨w.heap.size + 1 + 1, 0, none⟩) 1 1]) (by simp [results, Try.results17, go_sem, z0, z1, z2, z3, z4]) rfl ⟨⟨_, _, _, w.heap.size + 1 + 1, 0, rfl, HN.out⟩, HB.out⟩

def nine : X := ⟨9, 9, 9, 9⟩
theorem half_lit {a b c d : Int} (h : (-33554432 ≤ a ∧ a ≤ 33554432) ∧ (-33554432 ≤ b ∧ b ≤ 33554432) ∧ (-33554432 ≤ c ∧ c ≤ 33554432) ∧ (-33554432 ≤ d ∧ d ≤ 33554432)) : Half ⟨a, b, c, d⟩ := h
theorem nine_byte : byteX nine := by unfold byteX nine; decide
theorem boxA (ao : Option Addr) (m g off : Nat) (w : World) (hV : Vx w ao 1 m g off [nine]) :
    Calls Try.prog 12 #[.agg #[.int .i64 0, .int .i64 0, .int .i64 1, .int .i64 1, .slice ao 1 m], .agg #[.int .i64 (-2), .int .i64 0, .int .i64 2, .int .i64 1], .int .i64 1, .int .i64 0] w fun e w' => RetB w.heap.size w' e ⟨-2, 0, 2, 1⟩ [noX, ⟨3, 3, 3, 3⟩, ⟨3, 3, 3, 3⟩, ⟨3, 3, 3, 3⟩] ∧ Below w.heap.size w w' := by
  have h := box_any oneR ao 1 m g off (fun _ _ => nine) ⟨-2, 0, 2, 1⟩ 1 0 w (by decide) (by omega) (by rw [one_img]; exact hV) (fun _ _ => nine_byte) (half_lit (by omega)) (by decide) (by omega) (by omega)
  rw [show orN ⟨-2, 0, 2, 1⟩ = ⟨-2, 0, 2, 1⟩ by decide, show img ⟨-2, 0, 2, 1⟩ (blurG (atX oneR fun _ _ => nine) 1 0) = [noX, ⟨3, 3, 3, 3⟩, ⟨3, 3, 3, 3⟩, ⟨3, 3, 3, 3⟩] by decide] at h
  exact h
theorem boxC (ao : Option Addr) (m g off : Nat) (w : World) (hV : Vx w ao 1 m g off [nine]) :
    Calls Try.prog 12 #[.agg #[.int .i64 0, .int .i64 0, .int .i64 1, .int .i64 1, .slice ao 1 m], .agg #[.int .i64 (-1), .int .i64 1, .int .i64 0, .int .i64 2], .int .i64 1, .int .i64 1] w fun e w' => RetB w.heap.size w' e ⟨-1, 1, 0, 2⟩ [⟨1, 1, 1, 1⟩] ∧ Below w.heap.size w w' := by
  have h := box_any oneR ao 1 m g off (fun _ _ => nine) ⟨-1, 1, 0, 2⟩ 1 1 w (by decide) (by omega) (by rw [one_img]; exact hV) (fun _ _ => nine_byte) (half_lit (by omega)) (by decide) (by omega) (by omega)
  rw [show orN ⟨-1, 1, 0, 2⟩ = ⟨-1, 1, 0, 2⟩ by decide, show img ⟨-1, 1, 0, 2⟩ (blurG (atX oneR fun _ _ => nine) 1 1) = [⟨1, 1, 1, 1⟩] by decide] at h
  exact h

theorem len1 {p : X} {n : Nat} (h : [p].length = n) : n = 1 := by simpa using h.symm
theorem len4 {p q r t : X} {n : Nat} (h : [p, q, r, t].length = n) : n = 4 := by simpa using h.symm
theorem one9 (w : World) : Calls Try.prog 17 #[.agg #[.int .u8 9, .int .u8 9, .int .u8 9, .int .u8 9]] w fun e w' => RetB w.heap.size w' e ⟨0, 0, 1, 1⟩ [nine] ∧ Below w.heap.size w w' := one_any nine w

set_option maxRecDepth 100000 in
set_option maxHeartbeats 4000000 in
theorem awake_any (w : World) : Calls Try.prog 9 #[] w fun e w' => e = .returned (.bool true) ∧ Below w.heap.size w w' := by
  have HB0 : Hid (Below w.heap.size w w) := Below.refl _ _
  have c1 := eqB_yes (p := noX) (q := noX) rfl
  have c2 : eqB 3 3 3 3 3 3 3 3 = true := by decide
  have c3 : eqB 1 1 1 1 1 1 1 1 = true := by decide
  have c4 : eqB 0 0 0 0 0 0 0 0 = true := by decide
  clear c1
  have c5 : eqB noX.c0 noX.c1 noX.c2 noX.c3 0 0 0 0 = true := by decide
  go_enter Try.func9, Try.ntmps9
  go_wp2_with (first
    | (go_at_call 17; with_reducible refine Calls.mono (one9 _) ?_; (fail_if_success have := HB1); rintro e w1 ⟨hr, hb1⟩; obtain ⟨ao, n1, m1, g1, off1, rfl, hO1⟩ := retB hr; have hn1 := len1 (vx_len hO1.v); subst hn1; have HO1 := hid hO1.v; have HB1 := hid hb1; clear hr hO1 hb1)
    | (go_at_call 12; with_reducible refine Calls.mono (boxA ao m1 g1 off1 _ HO1.out) ?_; rintro e w2 ⟨hr, hb2⟩; obtain ⟨bo, n2, m2, g2, off2, rfl, hO2⟩ := retB hr; have hn2 := len4 (vx_len hO2.v); subst hn2; have HO2 := hid hO2.v; have HB2 := hid ((Rc.via HB1.out hb2).alloc (Rc.via HB1.out hb2).size (.cells #[.int .i64 (-2), .int .i64 0, .int .i64 2, .int .i64 1, .slice bo 4 m2] 26)); have H52 := hid (Has5.new (W := w2) (k := w2.heap.size) rfl (-2) 0 2 1 bo 4 m2 26); have HV2 := hid (HO2.out.below ((Below.refl _ _).alloc (Nat.le_refl _) (.cells #[.int .i64 (-2), .int .i64 0, .int .i64 2, .int .i64 1, .slice bo 4 m2] 26))); clear hr hO2 hb2)
    | (go_at_call 17; with_reducible refine Calls.mono (one9 _) ?_; rintro e w3 ⟨hr, hb3⟩; obtain ⟨ao3, n3, m3, g3, off3, rfl, hO3⟩ := retB hr; have hn3 := len1 (vx_len hO3.v); subst hn3; have HO3 := hid hO3.v; have HB3 := hid (Rc.via HB2.out hb3); have H53 := hid (H52.out.below hb3); have HV3 := hid (HV2.out.below hb3); clear hr hO3 hb3)
    | (go_at_call 12; with_reducible refine Calls.mono (boxC ao3 m3 g3 off3 _ HO3.out) ?_; rintro e w4 ⟨hr, hb4⟩; obtain ⟨co, n4, m4, g4, off4, rfl, hO4⟩ := retB hr; have hn4 := len1 (vx_len hO4.v); subst hn4; have HO4 := hid hO4.v; have HB4 := hid (Rc.via HB3.out hb4); have H54 := hid (H53.out.below hb4); have HV4 := hid (HV3.out.below hb4); clear hr hO4 hb4))
  have hba : Below w4.heap.size w4 ((w4.alloc (.cells #[.int .i64 (-1), .int .i64 1, .int .i64 0, .int .i64 2, .slice co 1 m4] 26)).alloc (.cells #[.int .u8 3, .int .u8 3, .int .u8 3, .int .u8 3] 32)) := ((Below.refl _ _).alloc (Nat.le_refl _) _).alloc (by simp) _
  have HBB := hid (Rc.via HB4.out hba)
  obtain ⟨-, -, -, -, b4, -⟩ := H54.out.below hba
  obtain ⟨-, -, -, -, f4, -⟩ := (Has5.new (W := w4) (k := w4.heap.size) rfl (-1) 1 0 2 co 1 m4 26).alloc (.cells #[.int .u8 3, .int .u8 3, .int .u8 3, .int .u8 3] 32)
  obtain ⟨t0, t1, t2, t3, -⟩ := Rc.Has4.new (W := w4.alloc (.cells #[.int .i64 (-1), .int .i64 1, .int .i64 0, .int .i64 2, .slice co 1 m4] 26)) (k := w4.heap.size + 1) (by simp) (.int .u8 3) (.int .u8 3) (.int .u8 3) (.int .u8 3) 32
  obtain ⟨rfl, p00, p01, p02, p03⟩ := vx_at0 (HV4.out.below hba)
  obtain ⟨-, p10, p11, p12, p13⟩ := vx_at (HV4.out.below hba) (i := 1) rfl
  obtain ⟨-, p30, p31, p32, p33⟩ := vx_at (HV4.out.below hba) (i := 3) rfl
  obtain ⟨rfl, r00, r01, r02, r03⟩ := vx_at0 (HO4.out.below hba)
  clear hba
  go_quiet (fail)
  go_wp2
  go_ret
  exact ⟨rfl, below_drewN HBB.out _⟩
end Go.Proofs.Ytbcgnnjkhgpkmaa
