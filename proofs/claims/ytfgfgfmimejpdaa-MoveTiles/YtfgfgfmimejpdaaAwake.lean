/- The law's own answers that the document fixes: the contract. -/
import Derived.Test.YtfgfgfmimejpdaaTileB
import Derived.Test.YtfgfgfmimejpdaaMoves1
import Derived.Test.YtfgfgfmimejpdaaSameB
import Derived.BigQuiet
import Derived.Deep.QuietTactic
namespace Go.Proofs.Ytfgfgfmimejpdaa
open Num Go.RowKit
set_option linter.unusedVariables false
set_option linter.unusedSimpArgs false
attribute [local go_sem ↓] eqPx
def pA : X := ⟨1, 1, 1, 1⟩
def qA : X := ⟨2, 2, 2, 2⟩
def bA : R := ⟨0, 0, 2, 1⟩
theorem aw_tile (ao : Option Addr) (m g off : Nat) (w : World) (hV : Vx w ao 2 m g off [pA, qA]) :
    Calls Try.prog 18 #[.agg #[.int .i64 0, .int .i64 0, .int .i64 2, .int .i64 1, .slice ao 2 m], .agg #[.int .i64 (-1), .int .i64 0, .int .i64 3, .int .i64 1], .agg #[.int .i64 0, .int .i64 0, .int .i64 2, .int .i64 1]] w fun e w' => RetB w.heap.size w' e ⟨-1, 0, 3, 1⟩ [⟨2, 2, 2, 2⟩, ⟨1, 1, 1, 1⟩, ⟨2, 2, 2, 2⟩, ⟨1, 1, 1, 1⟩] ∧ Below w.heap.size w w' := by
  have h := tile_any bA ao 2 m g off (unimg bA [pA, qA]) ⟨-1, 0, 3, 1⟩ bA w (by omega) (by decide) (by rw [show img bA (unimg bA [pA, qA]) = [pA, qA] by decide]; exact hV) (by decide) (by decide) (by decide) (by decide)
  rw [show orN ⟨-1, 0, 3, 1⟩ = ⟨-1, 0, 3, 1⟩ by decide, show img ⟨-1, 0, 3, 1⟩ (tileG bA (atX bA (unimg bA [pA, qA]))) = [⟨2, 2, 2, 2⟩, ⟨1, 1, 1, 1⟩, ⟨2, 2, 2, 2⟩, ⟨1, 1, 1, 1⟩] by decide] at h
  exact h
theorem aw_off (ao : Option Addr) (m g off : Nat) (w : World) (hV : Vx w ao 2 m g off [pA, qA]) :
    Calls Try.prog 20 #[.agg #[.int .i64 0, .int .i64 0, .int .i64 2, .int .i64 1, .slice ao 2 m], .agg #[.int .i64 0, .int .i64 0, .int .i64 2, .int .i64 1], .int .i64 1, .int .i64 0] w fun e w' => RetB w.heap.size w' e ⟨0, 0, 2, 1⟩ [⟨0, 0, 0, 0⟩, ⟨1, 1, 1, 1⟩] ∧ Below w.heap.size w w' := by
  have h := offset_any bA ao 2 m g off (unimg bA [pA, qA]) bA 1 0 w (by omega) (by decide) (by rw [show img bA (unimg bA [pA, qA]) = [pA, qA] by decide]; exact hV) (by unfold Ok bA; decide) (by decide) (by decide) (by decide)
  rw [show orN bA = ⟨0, 0, 2, 1⟩ by decide, show img ⟨0, 0, 2, 1⟩ (fun x y => atX bA (unimg bA [pA, qA]) (x - 1) (y - 0)) = [⟨0, 0, 0, 0⟩, ⟨1, 1, 1, 1⟩] by decide] at h
  exact h
theorem len2 {p q : X} {n : Nat} (h : [p, q].length = n) : n = 2 := by simpa using h.symm
theorem len4 {p q r s : X} {n : Nat} (h : [p, q, r, s].length = n) : n = 4 := by simpa using h.symm
structure Aw (w W : World) (k : Nat) (wr : World) : Prop where
  p : Rc.Has4 wr k (.int .u8 1) (.int .u8 1) (.int .u8 1) (.int .u8 1)
  q : Rc.Has4 wr (k + 1) (.int .u8 2) (.int .u8 2) (.int .u8 2) (.int .u8 2)
  b : Has5 wr (k + 1 + 1 + 1) ⟨0, 0, 2, 1⟩ (some ⟨k + 1 + 1, 0, none⟩) 2 2
  v : Vx wr (some ⟨k + 1 + 1, 0, none⟩) 2 2 (k + 1 + 1) 0 [pA, qA]
  low : Below w.heap.size w wr
theorem Aw.below {w W : World} {k : Nat} {wr wr' : World} (h : Aw w W k wr) (hb : Below wr.heap.size wr wr') : Aw w W k wr' := ⟨h.p.below hb, h.q.below hb, h.b.below hb, h.v.below hb, Rc.via h.low hb⟩

set_option maxRecDepth 100000 in
set_option maxHeartbeats 4000000 in
theorem awake_any (w : World) : Calls Try.prog 9 #[] w fun e w' => e = .returned (.bool true) ∧ Below w.heap.size w w' := by
  have HA : Hid (Aw w w w.heap.size (((((w.alloc (.cells #[.int .u8 1, .int .u8 1, .int .u8 1, .int .u8 1] 28)).alloc (.cells #[.int .u8 2, .int .u8 2, .int .u8 2, .int .u8 2] 28)).alloc (.cells #[.int .u8 1, .int .u8 1, .int .u8 1, .int .u8 1, .int .u8 2, .int .u8 2, .int .u8 2, .int .u8 2] 28)).alloc (.cells #[.int .i64 0, .int .i64 0, .int .i64 2, .int .i64 1, .slice (some ⟨w.heap.size + 1 + 1, 0, none⟩) 2 2] 26)))) := by
    have hsz : ((w.alloc (.cells #[.int .u8 1, .int .u8 1, .int .u8 1, .int .u8 1] 28)).alloc (.cells #[.int .u8 2, .int .u8 2, .int .u8 2, .int .u8 2] 28)).heap.size = w.heap.size + 1 + 1 := by simp
    have hv := ox_news (w := (w.alloc (.cells #[.int .u8 1, .int .u8 1, .int .u8 1, .int .u8 1] 28)).alloc (.cells #[.int .u8 2, .int .u8 2, .int .u8 2, .int .u8 2] 28)) (lo := w.heap.size) (by simp; omega) [pA, qA] (by simp) 28
    rw [hsz] at hv
    exact ⟨(((Rc.Has4.new rfl _ _ _ _ _).alloc _).alloc _).alloc _, ((Rc.Has4.new (by simp) _ _ _ _ _).alloc _).alloc _, Has5.new (by simp) _ _ _ _ _ _ _ _, hv.v.below ((Below.refl _ _).alloc (Nat.le_refl _) _), ((((Below.refl _ _).alloc (Nat.le_refl _) _).alloc (by simp) _).alloc (by simp; omega) _).alloc (by simp; omega) _⟩
  go_enter Try.func9, Try.ntmps9
  go_wp2_with (first
    | (go_at_call 18; with_reducible refine Calls.mono (aw_tile _ 2 _ _ _ HA.out.v) ?_; rintro e w1 ⟨hr, hb1⟩; obtain ⟨ao, n1, m1, g1, off1, rfl, hO1⟩ := retB hr; have hn1 := len4 (vx_len hO1.v); subst hn1; have HA1 := hid ((HA.out.below hb1).below ((Below.refl _ _).alloc (Nat.le_refl _) (.cells #[.int .i64 (-1), .int .i64 0, .int .i64 3, .int .i64 1, .slice ao 4 m1] 26))); have H51 := hid (Has5.new (W := w1) (k := w1.heap.size) rfl (-1) 0 3 1 ao 4 m1 26); have HV1 := hid (hO1.v.below ((Below.refl _ _).alloc (Nat.le_refl _) (.cells #[.int .i64 (-1), .int .i64 0, .int .i64 3, .int .i64 1, .slice ao 4 m1] 26))); clear hr hO1 hb1; obtain ⟨b0, b1, b2, b3, b4, bf⟩ := HA1.out.b)
    | (go_at_call 20; with_reducible refine Calls.mono (aw_off _ 2 _ _ _ HA1.out.v) ?_; rintro e w2 ⟨hr, hb2⟩; obtain ⟨co, n2, m2, g2, off2, rfl, hO2⟩ := retB hr; have hn2 := len2 (vx_len hO2.v); subst hn2; have HA2 := hid ((HA1.out.below hb2).below ((Below.refl _ _).alloc (Nat.le_refl _) (.cells #[.int .i64 0, .int .i64 0, .int .i64 2, .int .i64 1, .slice co 2 m2] 26))); have H52 := hid ((H51.out.below hb2).alloc (.cells #[.int .i64 0, .int .i64 0, .int .i64 2, .int .i64 1, .slice co 2 m2] 26)); have HV2 := hid ((HV1.out.below hb2).below ((Below.refl _ _).alloc (Nat.le_refl _) (.cells #[.int .i64 0, .int .i64 0, .int .i64 2, .int .i64 1, .slice co 2 m2] 26))); have H62 := hid (Has5.new (W := w2) (k := w2.heap.size) rfl 0 0 2 1 co 2 m2 26); have HW2 := hid (hO2.v.below ((Below.refl _ _).alloc (Nat.le_refl _) (.cells #[.int .i64 0, .int .i64 0, .int .i64 2, .int .i64 1, .slice co 2 m2] 26))); clear hr hO2 hb2 b0 b1 b2 b3 b4 bf))
  generalize w2.alloc (.cells #[.int .i64 0, .int .i64 0, .int .i64 2, .int .i64 1, .slice co 2 m2] 26) = w3 at HA2 H52 HV2 H62 HW2 ⊢
  obtain ⟨-, -, -, -, b4, -⟩ := H52.out
  obtain ⟨-, -, -, -, f4, -⟩ := H62.out
  obtain ⟨t0, t1, t2, t3, -⟩ := HA2.out.p
  obtain ⟨s0, s1, s2, s3, -⟩ := HA2.out.q
  obtain ⟨rfl, p00, p01, p02, p03⟩ := vx_at0 HV2.out
  obtain ⟨-, p10, p11, p12, p13⟩ := vx_at HV2.out (i := 1) rfl
  obtain ⟨-, p30, p31, p32, p33⟩ := vx_at HV2.out (i := 3) rfl
  obtain ⟨rfl, r00, r01, r02, r03⟩ := vx_at0 HW2.out
  obtain ⟨-, r10, r11, r12, r13⟩ := vx_at HW2.out (i := 1) rfl
  go_quiet (fail)
  go_wp2
  go_ret
  exact ⟨rfl, below_drewN HA2.out.low _⟩
end Go.Proofs.Ytfgfgfmimejpdaa
