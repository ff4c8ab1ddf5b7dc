/- A buffer's shadow is what the document says; no condition. -/
import Derived.Test.YtfgfgfmimejpdaaRows
import Derived.WalkKit
import Derived.ProofKit
import Derived.OpenShut
import Derived.Test.YtfgfgfmimejpdaaOpen
import Derived.Test.YtfgfgfmimejpdaaMgShadows
import Derived.Test.YtfgfgfmimejpdaaFine
import Derived.Test.YtfgfgfmimejpdaaPxRight
import Derived.Deep.DeepCutAuto
namespace Go.Proofs.Ytfgfgfmimejpdaa.moveShadows
open Go.ChangeShapes Go.WideShapes Go.ChangeAt Go.RowKit Num
set_option linter.unusedVariables false
set_option linter.unusedSimpArgs false
/-- what is handed in stands -/
structure Ks (W : World) (B : R) (ao : Option Addr) (n m : Nat) (D : R) (p : X) (w : World) : Prop where
  b : Has5 w W.heap.size B ao n m
  d : Rc.Has4 w (W.heap.size + 1) (.int .i64 D.x0) (.int .i64 D.y0) (.int .i64 D.x1) (.int .i64 D.y1)
  x : Rc.Has4 w (W.heap.size + 1 + 1) (.int .u8 p.c0) (.int .u8 p.c1) (.int .u8 p.c2) (.int .u8 p.c3)
  low : Below W.heap.size W w
  sz : W.heap.size + 1 + 1 + 1 ≤ w.heap.size
theorem Ks.below {W : World} {B : R} {ao : Option Addr} {n m : Nat} {D : R} {p : X} {w w' : World} (x : Ks W B ao n m D p w) (hb : Below w.heap.size w w') : Ks W B ao n m D p w' := ⟨x.b.below hb, x.d.below hb, x.x.below hb, x.low.trans (hb.mono x.low.size), Nat.le_trans x.sz hb.size⟩
theorem Ks.but {W : World} {B : R} {ao : Option Addr} {n m : Nat} {D : R} {p : X} {w w' : World} (x : Ks W B ao n m D p w) {j : Nat} (hb : But j w w') (hj : W.heap.size + 1 + 1 + 1 ≤ j) : Ks W B ao n m D p w' := ⟨x.b.but hb (by omega), has4_but x.d hb (by omega), has4_but x.x hb (by omega), x.low.trans (hb.low (by omega) x.low.size), Nat.le_trans x.sz hb.size⟩
theorem ks_new (W : World) (B : R) (ao : Option Addr) (n m : Nat) (D : R) (p : X) : Ks W B ao n m D p ((((W.alloc (.cells #[.int .i64 B.x0, .int .i64 B.y0, .int .i64 B.x1, .int .i64 B.y1, .slice ao n m] 26)).alloc (.cells #[.int .i64 D.x0, .int .i64 D.y0, .int .i64 D.x1, .int .i64 D.y1] 23)).alloc (.cells #[.int .u8 p.c0, .int .u8 p.c1, .int .u8 p.c2, .int .u8 p.c3] 28))) := ⟨((Has5.new rfl _ _ _ _ _ _ _ _).alloc _).alloc _, (Rc.Has4.new (by simp) _ _ _ _ _).alloc _, Rc.Has4.new (by simp) _ _ _ _ _, ((((Below.refl _ _).alloc (Nat.le_refl _) _).alloc (by simp) _).alloc (by simp; omega) _), by simp⟩

set_option maxRecDepth 100000 in
set_option maxHeartbeats 8000000 in
theorem walk (B : R) (ao : Option Addr) (n m g off : Nat) (l : List X) (D : R) (dx dy rx ry : Int) (p : X) (W : World) (h : Vx W ao n m g off l) (hp : ∀ p, p ∈ l → byteX p) (hpx : byteX p) :
    Calls Try.prog 4 #[.agg #[.int .i64 B.x0, .int .i64 B.y0, .int .i64 B.x1, .int .i64 B.y1, .slice ao n m], .agg #[.int .i64 D.x0, .int .i64 D.y0, .int .i64 D.x1, .int .i64 D.y1], .int .i64 dx, .int .i64 dy, .int .i64 rx, .int .i64 ry, .agg #[.int .u8 p.c0, .int .u8 p.c1, .int .u8 p.c2, .int .u8 p.c3]] W fun e w' => e = .returned (.bool true) ∧ Below W.heap.size W w' := by
  have hn := vx_small h
  have HV := hid h
  have HX : Hid (Ks W B ao n m D p ((((W.alloc (.cells #[.int .i64 B.x0, .int .i64 B.y0, .int .i64 B.x1, .int .i64 B.y1, .slice ao n m] 26)).alloc (.cells #[.int .i64 D.x0, .int .i64 D.y0, .int .i64 D.x1, .int .i64 D.y1] 23)).alloc (.cells #[.int .u8 p.c0, .int .u8 p.c1, .int .u8 p.c2, .int .u8 p.c3] 28)))) := ks_new W B ao n m D p
  obtain ⟨b0, b1, b2, b3, b4, bf⟩ := HX.out.b
  obtain ⟨d0, d1, d2, d3, df⟩ := HX.out.d
  obtain ⟨x0, x1, x2, x3, xf⟩ := HX.out.x
  rcases h1 : rightT B n l with _ | _
  · have HR := hid (And.intro h1 (And.intro trivial (And.intro trivial (And.intro trivial (trivial)))))
    clear h1 h hp hpx
    go_enter Try.func4, Try.ntmps4
    go_wp2_with (first
      | (go_at_call 9; with_reducible refine Calls.mono (awake_any _) ?_; rintro e wc ⟨rfl, hb⟩; replace HX := hid (HX.out.below hb); clear hb; clear b0 b1 b2 b3 b4 bf d0 d1 d2 d3 df x0 x1 x2 x3 xf; obtain ⟨b0, b1, b2, b3, b4, bf⟩ := HX.out.b; obtain ⟨d0, d1, d2, d3, df⟩ := HX.out.d; obtain ⟨x0, x1, x2, x3, xf⟩ := HX.out.x)
      | (go_at_call 10; with_reducible refine Calls.mono (right10_any B ao n m g off _ _ (HV.out.below HX.out.low)) ?_; rintro e wc ⟨rfl, hb⟩; rw [HR.out.1]; replace HX := hid (HX.out.below hb); clear hb; clear b0 b1 b2 b3 b4 bf d0 d1 d2 d3 df x0 x1 x2 x3 xf; obtain ⟨b0, b1, b2, b3, b4, bf⟩ := HX.out.b; obtain ⟨d0, d1, d2, d3, df⟩ := HX.out.d; obtain ⟨x0, x1, x2, x3, xf⟩ := HX.out.x)
      | (go_at_call 26; with_reducible refine Calls.mono (refFine_any D rx ry 900 _) ?_; rintro e wc ⟨rfl, hb⟩; rw [HR.out.2.1]; replace HX := hid (HX.out.below hb); clear hb; clear b0 b1 b2 b3 b4 bf d0 d1 d2 d3 df x0 x1 x2 x3 xf; obtain ⟨b0, b1, b2, b3, b4, bf⟩ := HX.out.b; obtain ⟨d0, d1, d2, d3, df⟩ := HX.out.d; obtain ⟨x0, x1, x2, x3, xf⟩ := HX.out.x)
      | (go_at_call 13; with_reducible refine Calls.mono (nearM_any dx _) ?_; (fail_if_success have := D1); rintro e wc ⟨rfl, hw⟩; replace hw := hw.symm; subst hw; rw [HR.out.2.2.1]; have D1 := hid trivial)
      | (go_at_call 13; with_reducible refine Calls.mono (nearM_any dy _) ?_; rintro e wc ⟨rfl, hw⟩; replace hw := hw.symm; subst hw; rw [HR.out.2.2.2.1])
      | (go_at_call 14; with_reducible refine Calls.mono (pxRight_any p _) ?_; rintro e wc ⟨rfl, hb⟩; rw [HR.out.2.2.2.2]; replace HX := hid (HX.out.below hb); clear hb; clear b0 b1 b2 b3 b4 bf d0 d1 d2 d3 df x0 x1 x2 x3 xf; obtain ⟨b0, b1, b2, b3, b4, bf⟩ := HX.out.b; obtain ⟨d0, d1, d2, d3, df⟩ := HX.out.d; obtain ⟨x0, x1, x2, x3, xf⟩ := HX.out.x))
    go_ret
    exact ⟨rfl, HX.out.low⟩
  by_cases g1 : 10 < rx
  · have HR := hid (And.intro h1 (And.intro trivial (And.intro trivial (And.intro trivial (trivial)))))
    clear h1 h hp hpx
    go_enter Try.func4, Try.ntmps4
    go_wp2_with (first
      | (go_at_call 9; with_reducible refine Calls.mono (awake_any _) ?_; rintro e wc ⟨rfl, hb⟩; replace HX := hid (HX.out.below hb); clear hb; clear b0 b1 b2 b3 b4 bf d0 d1 d2 d3 df x0 x1 x2 x3 xf; obtain ⟨b0, b1, b2, b3, b4, bf⟩ := HX.out.b; obtain ⟨d0, d1, d2, d3, df⟩ := HX.out.d; obtain ⟨x0, x1, x2, x3, xf⟩ := HX.out.x)
      | (go_at_call 10; with_reducible refine Calls.mono (right10_any B ao n m g off _ _ (HV.out.below HX.out.low)) ?_; rintro e wc ⟨rfl, hb⟩; rw [HR.out.1]; replace HX := hid (HX.out.below hb); clear hb; clear b0 b1 b2 b3 b4 bf d0 d1 d2 d3 df x0 x1 x2 x3 xf; obtain ⟨b0, b1, b2, b3, b4, bf⟩ := HX.out.b; obtain ⟨d0, d1, d2, d3, df⟩ := HX.out.d; obtain ⟨x0, x1, x2, x3, xf⟩ := HX.out.x)
      | (go_at_call 26; with_reducible refine Calls.mono (refFine_any D rx ry 900 _) ?_; rintro e wc ⟨rfl, hb⟩; rw [HR.out.2.1]; replace HX := hid (HX.out.below hb); clear hb; clear b0 b1 b2 b3 b4 bf d0 d1 d2 d3 df x0 x1 x2 x3 xf; obtain ⟨b0, b1, b2, b3, b4, bf⟩ := HX.out.b; obtain ⟨d0, d1, d2, d3, df⟩ := HX.out.d; obtain ⟨x0, x1, x2, x3, xf⟩ := HX.out.x)
      | (go_at_call 13; with_reducible refine Calls.mono (nearM_any dx _) ?_; (fail_if_success have := D1); rintro e wc ⟨rfl, hw⟩; replace hw := hw.symm; subst hw; rw [HR.out.2.2.1]; have D1 := hid trivial)
      | (go_at_call 13; with_reducible refine Calls.mono (nearM_any dy _) ?_; rintro e wc ⟨rfl, hw⟩; replace hw := hw.symm; subst hw; rw [HR.out.2.2.2.1])
      | (go_at_call 14; with_reducible refine Calls.mono (pxRight_any p _) ?_; rintro e wc ⟨rfl, hb⟩; rw [HR.out.2.2.2.2]; replace HX := hid (HX.out.below hb); clear hb; clear b0 b1 b2 b3 b4 bf d0 d1 d2 d3 df x0 x1 x2 x3 xf; obtain ⟨b0, b1, b2, b3, b4, bf⟩ := HX.out.b; obtain ⟨d0, d1, d2, d3, df⟩ := HX.out.d; obtain ⟨x0, x1, x2, x3, xf⟩ := HX.out.x))
    go_ret
    exact ⟨rfl, HX.out.low⟩
  by_cases g2 : 10 < ry
  · have HR := hid (And.intro h1 (And.intro trivial (And.intro trivial (And.intro trivial (trivial)))))
    clear h1 h hp hpx
    go_enter Try.func4, Try.ntmps4
    go_wp2_with (first
      | (go_at_call 9; with_reducible refine Calls.mono (awake_any _) ?_; rintro e wc ⟨rfl, hb⟩; replace HX := hid (HX.out.below hb); clear hb; clear b0 b1 b2 b3 b4 bf d0 d1 d2 d3 df x0 x1 x2 x3 xf; obtain ⟨b0, b1, b2, b3, b4, bf⟩ := HX.out.b; obtain ⟨d0, d1, d2, d3, df⟩ := HX.out.d; obtain ⟨x0, x1, x2, x3, xf⟩ := HX.out.x)
      | (go_at_call 10; with_reducible refine Calls.mono (right10_any B ao n m g off _ _ (HV.out.below HX.out.low)) ?_; rintro e wc ⟨rfl, hb⟩; rw [HR.out.1]; replace HX := hid (HX.out.below hb); clear hb; clear b0 b1 b2 b3 b4 bf d0 d1 d2 d3 df x0 x1 x2 x3 xf; obtain ⟨b0, b1, b2, b3, b4, bf⟩ := HX.out.b; obtain ⟨d0, d1, d2, d3, df⟩ := HX.out.d; obtain ⟨x0, x1, x2, x3, xf⟩ := HX.out.x)
      | (go_at_call 26; with_reducible refine Calls.mono (refFine_any D rx ry 900 _) ?_; rintro e wc ⟨rfl, hb⟩; rw [HR.out.2.1]; replace HX := hid (HX.out.below hb); clear hb; clear b0 b1 b2 b3 b4 bf d0 d1 d2 d3 df x0 x1 x2 x3 xf; obtain ⟨b0, b1, b2, b3, b4, bf⟩ := HX.out.b; obtain ⟨d0, d1, d2, d3, df⟩ := HX.out.d; obtain ⟨x0, x1, x2, x3, xf⟩ := HX.out.x)
      | (go_at_call 13; with_reducible refine Calls.mono (nearM_any dx _) ?_; (fail_if_success have := D1); rintro e wc ⟨rfl, hw⟩; replace hw := hw.symm; subst hw; rw [HR.out.2.2.1]; have D1 := hid trivial)
      | (go_at_call 13; with_reducible refine Calls.mono (nearM_any dy _) ?_; rintro e wc ⟨rfl, hw⟩; replace hw := hw.symm; subst hw; rw [HR.out.2.2.2.1])
      | (go_at_call 14; with_reducible refine Calls.mono (pxRight_any p _) ?_; rintro e wc ⟨rfl, hb⟩; rw [HR.out.2.2.2.2]; replace HX := hid (HX.out.below hb); clear hb; clear b0 b1 b2 b3 b4 bf d0 d1 d2 d3 df x0 x1 x2 x3 xf; obtain ⟨b0, b1, b2, b3, b4, bf⟩ := HX.out.b; obtain ⟨d0, d1, d2, d3, df⟩ := HX.out.d; obtain ⟨x0, x1, x2, x3, xf⟩ := HX.out.x))
    go_ret
    exact ⟨rfl, HX.out.low⟩
  rcases h2 : fineF D rx ry 900 with _ | _
  · have HR := hid (And.intro h1 (And.intro h2 (And.intro trivial (And.intro trivial (trivial)))))
    clear h1 h2 h hp hpx
    go_enter Try.func4, Try.ntmps4
    go_wp2_with (first
      | (go_at_call 9; with_reducible refine Calls.mono (awake_any _) ?_; rintro e wc ⟨rfl, hb⟩; replace HX := hid (HX.out.below hb); clear hb; clear b0 b1 b2 b3 b4 bf d0 d1 d2 d3 df x0 x1 x2 x3 xf; obtain ⟨b0, b1, b2, b3, b4, bf⟩ := HX.out.b; obtain ⟨d0, d1, d2, d3, df⟩ := HX.out.d; obtain ⟨x0, x1, x2, x3, xf⟩ := HX.out.x)
      | (go_at_call 10; with_reducible refine Calls.mono (right10_any B ao n m g off _ _ (HV.out.below HX.out.low)) ?_; rintro e wc ⟨rfl, hb⟩; rw [HR.out.1]; replace HX := hid (HX.out.below hb); clear hb; clear b0 b1 b2 b3 b4 bf d0 d1 d2 d3 df x0 x1 x2 x3 xf; obtain ⟨b0, b1, b2, b3, b4, bf⟩ := HX.out.b; obtain ⟨d0, d1, d2, d3, df⟩ := HX.out.d; obtain ⟨x0, x1, x2, x3, xf⟩ := HX.out.x)
      | (go_at_call 26; with_reducible refine Calls.mono (refFine_any D rx ry 900 _) ?_; rintro e wc ⟨rfl, hb⟩; rw [HR.out.2.1]; replace HX := hid (HX.out.below hb); clear hb; clear b0 b1 b2 b3 b4 bf d0 d1 d2 d3 df x0 x1 x2 x3 xf; obtain ⟨b0, b1, b2, b3, b4, bf⟩ := HX.out.b; obtain ⟨d0, d1, d2, d3, df⟩ := HX.out.d; obtain ⟨x0, x1, x2, x3, xf⟩ := HX.out.x)
      | (go_at_call 13; with_reducible refine Calls.mono (nearM_any dx _) ?_; (fail_if_success have := D1); rintro e wc ⟨rfl, hw⟩; replace hw := hw.symm; subst hw; rw [HR.out.2.2.1]; have D1 := hid trivial)
      | (go_at_call 13; with_reducible refine Calls.mono (nearM_any dy _) ?_; rintro e wc ⟨rfl, hw⟩; replace hw := hw.symm; subst hw; rw [HR.out.2.2.2.1])
      | (go_at_call 14; with_reducible refine Calls.mono (pxRight_any p _) ?_; rintro e wc ⟨rfl, hb⟩; rw [HR.out.2.2.2.2]; replace HX := hid (HX.out.below hb); clear hb; clear b0 b1 b2 b3 b4 bf d0 d1 d2 d3 df x0 x1 x2 x3 xf; obtain ⟨b0, b1, b2, b3, b4, bf⟩ := HX.out.b; obtain ⟨d0, d1, d2, d3, df⟩ := HX.out.d; obtain ⟨x0, x1, x2, x3, xf⟩ := HX.out.x))
    go_ret
    exact ⟨rfl, HX.out.low⟩
  rcases h3 : nearM dx with _ | _
  · have HR := hid (And.intro h1 (And.intro h2 (And.intro h3 (And.intro trivial (trivial)))))
    clear h1 h2 h3 h hp hpx
    go_enter Try.func4, Try.ntmps4
    go_wp2_with (first
      | (go_at_call 9; with_reducible refine Calls.mono (awake_any _) ?_; rintro e wc ⟨rfl, hb⟩; replace HX := hid (HX.out.below hb); clear hb; clear b0 b1 b2 b3 b4 bf d0 d1 d2 d3 df x0 x1 x2 x3 xf; obtain ⟨b0, b1, b2, b3, b4, bf⟩ := HX.out.b; obtain ⟨d0, d1, d2, d3, df⟩ := HX.out.d; obtain ⟨x0, x1, x2, x3, xf⟩ := HX.out.x)
      | (go_at_call 10; with_reducible refine Calls.mono (right10_any B ao n m g off _ _ (HV.out.below HX.out.low)) ?_; rintro e wc ⟨rfl, hb⟩; rw [HR.out.1]; replace HX := hid (HX.out.below hb); clear hb; clear b0 b1 b2 b3 b4 bf d0 d1 d2 d3 df x0 x1 x2 x3 xf; obtain ⟨b0, b1, b2, b3, b4, bf⟩ := HX.out.b; obtain ⟨d0, d1, d2, d3, df⟩ := HX.out.d; obtain ⟨x0, x1, x2, x3, xf⟩ := HX.out.x)
      | (go_at_call 26; with_reducible refine Calls.mono (refFine_any D rx ry 900 _) ?_; rintro e wc ⟨rfl, hb⟩; rw [HR.out.2.1]; replace HX := hid (HX.out.below hb); clear hb; clear b0 b1 b2 b3 b4 bf d0 d1 d2 d3 df x0 x1 x2 x3 xf; obtain ⟨b0, b1, b2, b3, b4, bf⟩ := HX.out.b; obtain ⟨d0, d1, d2, d3, df⟩ := HX.out.d; obtain ⟨x0, x1, x2, x3, xf⟩ := HX.out.x)
      | (go_at_call 13; with_reducible refine Calls.mono (nearM_any dx _) ?_; (fail_if_success have := D1); rintro e wc ⟨rfl, hw⟩; replace hw := hw.symm; subst hw; rw [HR.out.2.2.1]; have D1 := hid trivial)
      | (go_at_call 13; with_reducible refine Calls.mono (nearM_any dy _) ?_; rintro e wc ⟨rfl, hw⟩; replace hw := hw.symm; subst hw; rw [HR.out.2.2.2.1])
      | (go_at_call 14; with_reducible refine Calls.mono (pxRight_any p _) ?_; rintro e wc ⟨rfl, hb⟩; rw [HR.out.2.2.2.2]; replace HX := hid (HX.out.below hb); clear hb; clear b0 b1 b2 b3 b4 bf d0 d1 d2 d3 df x0 x1 x2 x3 xf; obtain ⟨b0, b1, b2, b3, b4, bf⟩ := HX.out.b; obtain ⟨d0, d1, d2, d3, df⟩ := HX.out.d; obtain ⟨x0, x1, x2, x3, xf⟩ := HX.out.x))
    go_ret
    exact ⟨rfl, HX.out.low⟩
  rcases h4 : nearM dy with _ | _
  · have HR := hid (And.intro h1 (And.intro h2 (And.intro h3 (And.intro h4 (trivial)))))
    clear h1 h2 h3 h4 h hp hpx
    go_enter Try.func4, Try.ntmps4
    go_wp2_with (first
      | (go_at_call 9; with_reducible refine Calls.mono (awake_any _) ?_; rintro e wc ⟨rfl, hb⟩; replace HX := hid (HX.out.below hb); clear hb; clear b0 b1 b2 b3 b4 bf d0 d1 d2 d3 df x0 x1 x2 x3 xf; obtain ⟨b0, b1, b2, b3, b4, bf⟩ := HX.out.b; obtain ⟨d0, d1, d2, d3, df⟩ := HX.out.d; obtain ⟨x0, x1, x2, x3, xf⟩ := HX.out.x)
      | (go_at_call 10; with_reducible refine Calls.mono (right10_any B ao n m g off _ _ (HV.out.below HX.out.low)) ?_; rintro e wc ⟨rfl, hb⟩; rw [HR.out.1]; replace HX := hid (HX.out.below hb); clear hb; clear b0 b1 b2 b3 b4 bf d0 d1 d2 d3 df x0 x1 x2 x3 xf; obtain ⟨b0, b1, b2, b3, b4, bf⟩ := HX.out.b; obtain ⟨d0, d1, d2, d3, df⟩ := HX.out.d; obtain ⟨x0, x1, x2, x3, xf⟩ := HX.out.x)
      | (go_at_call 26; with_reducible refine Calls.mono (refFine_any D rx ry 900 _) ?_; rintro e wc ⟨rfl, hb⟩; rw [HR.out.2.1]; replace HX := hid (HX.out.below hb); clear hb; clear b0 b1 b2 b3 b4 bf d0 d1 d2 d3 df x0 x1 x2 x3 xf; obtain ⟨b0, b1, b2, b3, b4, bf⟩ := HX.out.b; obtain ⟨d0, d1, d2, d3, df⟩ := HX.out.d; obtain ⟨x0, x1, x2, x3, xf⟩ := HX.out.x)
      | (go_at_call 13; with_reducible refine Calls.mono (nearM_any dx _) ?_; (fail_if_success have := D1); rintro e wc ⟨rfl, hw⟩; replace hw := hw.symm; subst hw; rw [HR.out.2.2.1]; have D1 := hid trivial)
      | (go_at_call 13; with_reducible refine Calls.mono (nearM_any dy _) ?_; rintro e wc ⟨rfl, hw⟩; replace hw := hw.symm; subst hw; rw [HR.out.2.2.2.1])
      | (go_at_call 14; with_reducible refine Calls.mono (pxRight_any p _) ?_; rintro e wc ⟨rfl, hb⟩; rw [HR.out.2.2.2.2]; replace HX := hid (HX.out.below hb); clear hb; clear b0 b1 b2 b3 b4 bf d0 d1 d2 d3 df x0 x1 x2 x3 xf; obtain ⟨b0, b1, b2, b3, b4, bf⟩ := HX.out.b; obtain ⟨d0, d1, d2, d3, df⟩ := HX.out.d; obtain ⟨x0, x1, x2, x3, xf⟩ := HX.out.x))
    go_ret
    exact ⟨rfl, HX.out.low⟩
  rcases h5 : rgtB p with _ | _
  · have HR := hid (And.intro h1 (And.intro h2 (And.intro h3 (And.intro h4 (h5)))))
    clear h1 h2 h3 h4 h5 h hp hpx
    go_enter Try.func4, Try.ntmps4
    go_wp2_with (first
      | (go_at_call 9; with_reducible refine Calls.mono (awake_any _) ?_; rintro e wc ⟨rfl, hb⟩; replace HX := hid (HX.out.below hb); clear hb; clear b0 b1 b2 b3 b4 bf d0 d1 d2 d3 df x0 x1 x2 x3 xf; obtain ⟨b0, b1, b2, b3, b4, bf⟩ := HX.out.b; obtain ⟨d0, d1, d2, d3, df⟩ := HX.out.d; obtain ⟨x0, x1, x2, x3, xf⟩ := HX.out.x)
      | (go_at_call 10; with_reducible refine Calls.mono (right10_any B ao n m g off _ _ (HV.out.below HX.out.low)) ?_; rintro e wc ⟨rfl, hb⟩; rw [HR.out.1]; replace HX := hid (HX.out.below hb); clear hb; clear b0 b1 b2 b3 b4 bf d0 d1 d2 d3 df x0 x1 x2 x3 xf; obtain ⟨b0, b1, b2, b3, b4, bf⟩ := HX.out.b; obtain ⟨d0, d1, d2, d3, df⟩ := HX.out.d; obtain ⟨x0, x1, x2, x3, xf⟩ := HX.out.x)
      | (go_at_call 26; with_reducible refine Calls.mono (refFine_any D rx ry 900 _) ?_; rintro e wc ⟨rfl, hb⟩; rw [HR.out.2.1]; replace HX := hid (HX.out.below hb); clear hb; clear b0 b1 b2 b3 b4 bf d0 d1 d2 d3 df x0 x1 x2 x3 xf; obtain ⟨b0, b1, b2, b3, b4, bf⟩ := HX.out.b; obtain ⟨d0, d1, d2, d3, df⟩ := HX.out.d; obtain ⟨x0, x1, x2, x3, xf⟩ := HX.out.x)
      | (go_at_call 13; with_reducible refine Calls.mono (nearM_any dx _) ?_; (fail_if_success have := D1); rintro e wc ⟨rfl, hw⟩; replace hw := hw.symm; subst hw; rw [HR.out.2.2.1]; have D1 := hid trivial)
      | (go_at_call 13; with_reducible refine Calls.mono (nearM_any dy _) ?_; rintro e wc ⟨rfl, hw⟩; replace hw := hw.symm; subst hw; rw [HR.out.2.2.2.1])
      | (go_at_call 14; with_reducible refine Calls.mono (pxRight_any p _) ?_; rintro e wc ⟨rfl, hb⟩; rw [HR.out.2.2.2.2]; replace HX := hid (HX.out.below hb); clear hb; clear b0 b1 b2 b3 b4 bf d0 d1 d2 d3 df x0 x1 x2 x3 xf; obtain ⟨b0, b1, b2, b3, b4, bf⟩ := HX.out.b; obtain ⟨d0, d1, d2, d3, df⟩ := HX.out.d; obtain ⟨x0, x1, x2, x3, xf⟩ := HX.out.x))
    go_ret
    exact ⟨rfl, HX.out.low⟩
  have HR := hid (And.intro h1 (And.intro h2 (And.intro h3 (And.intro h4 (h5)))))
  have HG := gd_of h hp h1
  have HFB := fine_box h2
  have hdx : -33554432 ≤ dx ∧ dx ≤ 33554432 := by have := of_decide_eq_true h3; omega
  have hdy : -33554432 ≤ dy ∧ dy ≤ 33554432 := by have := of_decide_eq_true h4; omega
  obtain ⟨k, rfl⟩ := Int.eq_ofNat_of_zero_le HFB.1.1
  obtain ⟨j, rfl⟩ := Int.eq_ofNat_of_zero_le HFB.1.2.1
  obtain ⟨f, hf⟩ : ∃ f, f = unimg B l := ⟨_, rfl⟩
  have e1 := HG.im
  rw [← hf] at e1
  have HU : Hid (n ≤ 5000 ∧ bufB B n = true ∧ (∀ x y, byteX (f x y)) ∧ Half D ∧ area (grow D (k : Int) (j : Int) (k : Int) (j : Int)) ≤ 5000 ∧ k ≤ 255 ∧ j ≤ 255 ∧ (-33554432 ≤ dx ∧ dx ≤ 33554432) ∧ (-33554432 ≤ dy ∧ dy ≤ 33554432) ∧ byteX p) := hid ⟨by have := HG.n3; omega, HG.buf, by rw [hf]; exact HG.byt, HFB.2.1, by have := HFB.2.2; omega, by have := HFB.1; omega, by have := HFB.1; omega, hdx, hdy, hpx⟩
  clear HG HFB hdx hdy hf h1 h2 h3 h4 h5 hp hpx
  subst e1
  clear h
  go_enter Try.func4, Try.ntmps4
  go_upto_region 3 with (first
      | (go_at_call 9; with_reducible refine Calls.mono (awake_any _) ?_; rintro e wc ⟨rfl, hb⟩; replace HX := hid (HX.out.below hb); clear hb; clear b0 b1 b2 b3 b4 bf d0 d1 d2 d3 df x0 x1 x2 x3 xf; obtain ⟨b0, b1, b2, b3, b4, bf⟩ := HX.out.b; obtain ⟨d0, d1, d2, d3, df⟩ := HX.out.d; obtain ⟨x0, x1, x2, x3, xf⟩ := HX.out.x)
      | (go_at_call 10; with_reducible refine Calls.mono (right10_any B ao n m g off _ _ (HV.out.below HX.out.low)) ?_; rintro e wc ⟨rfl, hb⟩; rw [HR.out.1]; replace HX := hid (HX.out.below hb); clear hb; clear b0 b1 b2 b3 b4 bf d0 d1 d2 d3 df x0 x1 x2 x3 xf; obtain ⟨b0, b1, b2, b3, b4, bf⟩ := HX.out.b; obtain ⟨d0, d1, d2, d3, df⟩ := HX.out.d; obtain ⟨x0, x1, x2, x3, xf⟩ := HX.out.x)
      | (go_at_call 26; with_reducible refine Calls.mono (refFine_any D (k : Int) (j : Int) 900 _) ?_; rintro e wc ⟨rfl, hb⟩; rw [HR.out.2.1]; replace HX := hid (HX.out.below hb); clear hb; clear b0 b1 b2 b3 b4 bf d0 d1 d2 d3 df x0 x1 x2 x3 xf; obtain ⟨b0, b1, b2, b3, b4, bf⟩ := HX.out.b; obtain ⟨d0, d1, d2, d3, df⟩ := HX.out.d; obtain ⟨x0, x1, x2, x3, xf⟩ := HX.out.x)
      | (go_at_call 13; with_reducible refine Calls.mono (nearM_any dx _) ?_; (fail_if_success have := D1); rintro e wc ⟨rfl, hw⟩; replace hw := hw.symm; subst hw; rw [HR.out.2.2.1]; have D1 := hid trivial)
      | (go_at_call 13; with_reducible refine Calls.mono (nearM_any dy _) ?_; rintro e wc ⟨rfl, hw⟩; replace hw := hw.symm; subst hw; rw [HR.out.2.2.2.1])
      | (go_at_call 14; with_reducible refine Calls.mono (pxRight_any p _) ?_; rintro e wc ⟨rfl, hb⟩; rw [HR.out.2.2.2.2]; replace HX := hid (HX.out.below hb); clear hb; clear b0 b1 b2 b3 b4 bf d0 d1 d2 d3 df x0 x1 x2 x3 xf; obtain ⟨b0, b1, b2, b3, b4, bf⟩ := HX.out.b; obtain ⟨d0, d1, d2, d3, df⟩ := HX.out.d; obtain ⟨x0, x1, x2, x3, xf⟩ := HX.out.x))
  clear HR D1
  clear b0 b1 b2 b3 b4 bf d0 d1 d2 d3 df x0 x1 x2 x3 xf
  replace HX := hid (HX.out.below (Below.refl _ _).drew)
  refine wp_region_held_drew (S := (fun w' => w'.cell? ⟨W.heap.size, 0, none⟩ = some (.int .i64 B.x0) ∧ w'.cell? ⟨W.heap.size, 1, none⟩ = some (.int .i64 B.y0) ∧ w'.cell? ⟨W.heap.size, 2, none⟩ = some (.int .i64 B.x1) ∧ w'.cell? ⟨W.heap.size, 3, none⟩ = some (.int .i64 B.y1) ∧ w'.cell? ⟨W.heap.size, 4, none⟩ = some (.slice ao n m) ∧ w'.cell? ⟨(W.heap.size + 1), 0, none⟩ = some (.int .i64 D.x0) ∧ w'.cell? ⟨(W.heap.size + 1), 1, none⟩ = some (.int .i64 D.y0) ∧ w'.cell? ⟨(W.heap.size + 1), 2, none⟩ = some (.int .i64 D.x1) ∧ w'.cell? ⟨(W.heap.size + 1), 3, none⟩ = some (.int .i64 D.y1) ∧ w'.cell? ⟨(W.heap.size + 1 + 1), 0, none⟩ = some (.int .u8 p.c0) ∧ w'.cell? ⟨(W.heap.size + 1 + 1), 1, none⟩ = some (.int .u8 p.c1) ∧ w'.cell? ⟨(W.heap.size + 1 + 1), 2, none⟩ = some (.int .u8 p.c2) ∧ w'.cell? ⟨(W.heap.size + 1 + 1), 3, none⟩ = some (.int .u8 p.c3))) (by kernel_rfl) ?_ (fun hHeld => ?_)
  · exact ⟨HX.out.b.c0, HX.out.b.c1, HX.out.b.c2, HX.out.b.c3, HX.out.b.c4, HX.out.d.c0, HX.out.d.c1, HX.out.d.c2, HX.out.d.c3, HX.out.x.c0, HX.out.x.c1, HX.out.x.c2, HX.out.x.c3⟩
  generalize wc.drew = wd at HX hHeld ⊢
  refine wpAnyH_take (i := 0) (oi := { dst := some 53, op := Op.load 26 (Operand.tmp 7), type := 26, pos := "law.go:41", after := #[], guard := none }) (v := ?_) rfl (by kernel_rfl) (by kernel_rfl) (by kernel_rfl) (fun _ _ _ h => h) (Or.inl ⟨by rfl, ?hy⟩) (by assumption) ?_
  case hy => (intro w hSw; (try dsimp only at hSw); go_simp; first | done | with_reducible rfl)
  try simp only [Act.put, List.setIfInBounds_toArray, List.set_cons_zero, List.set_cons_succ]
  refine wpAnyH_take (i := 1) (oi := { dst := some 54, op := Op.load 23 (Operand.tmp 8), type := 23, pos := "law.go:41", after := #[], guard := none }) (v := ?_) rfl (by kernel_rfl) (by kernel_rfl) (by kernel_rfl) (fun _ _ _ h => h) (Or.inl ⟨by rfl, ?hy⟩) (by assumption) ?_
  case hy => (intro w hSw; (try dsimp only at hSw); go_simp; first | done | with_reducible rfl)
  try simp only [Act.put, List.setIfInBounds_toArray, List.set_cons_zero, List.set_cons_succ]
  refine wpAnyH_take (i := 2) (oi := { dst := some 55, op := Op.move (Operand.tmp 2), type := 3, pos := "law.go:41", after := #[], guard := none }) (v := ?_) rfl (by kernel_rfl) (by kernel_rfl) (by kernel_rfl) (fun _ _ _ h => h) (Or.inl ⟨by rfl, ?hy⟩) (by assumption) ?_
  case hy => (intro w hSw; (try dsimp only at hSw); go_simp; first | done | with_reducible rfl)
  try simp only [Act.put, List.setIfInBounds_toArray, List.set_cons_zero, List.set_cons_succ]
  refine wpAnyH_take (i := 3) (oi := { dst := some 56, op := Op.move (Operand.tmp 3), type := 3, pos := "law.go:41", after := #[], guard := none }) (v := ?_) rfl (by kernel_rfl) (by kernel_rfl) (by kernel_rfl) (fun _ _ _ h => h) (Or.inl ⟨by rfl, ?hy⟩) (by assumption) ?_
  case hy => (intro w hSw; (try dsimp only at hSw); go_simp; first | done | with_reducible rfl)
  try simp only [Act.put, List.setIfInBounds_toArray, List.set_cons_zero, List.set_cons_succ]
  refine wpAnyH_take (i := 4) (oi := { dst := some 57, op := Op.move (Operand.tmp 4), type := 3, pos := "law.go:41", after := #[], guard := none }) (v := ?_) rfl (by kernel_rfl) (by kernel_rfl) (by kernel_rfl) (fun _ _ _ h => h) (Or.inl ⟨by rfl, ?hy⟩) (by assumption) ?_
  case hy => (intro w hSw; (try dsimp only at hSw); go_simp; first | done | with_reducible rfl)
  try simp only [Act.put, List.setIfInBounds_toArray, List.set_cons_zero, List.set_cons_succ]
  refine wpAnyH_take (i := 5) (oi := { dst := some 58, op := Op.move (Operand.tmp 5), type := 3, pos := "law.go:41", after := #[], guard := none }) (v := ?_) rfl (by kernel_rfl) (by kernel_rfl) (by kernel_rfl) (fun _ _ _ h => h) (Or.inl ⟨by rfl, ?hy⟩) (by assumption) ?_
  case hy => (intro w hSw; (try dsimp only at hSw); go_simp; first | done | with_reducible rfl)
  try simp only [Act.put, List.setIfInBounds_toArray, List.set_cons_zero, List.set_cons_succ]
  refine wpAnyH_take (i := 6) (oi := { dst := some 59, op := Op.load 28 (Operand.tmp 13), type := 28, pos := "law.go:41", after := #[], guard := none }) (v := ?_) rfl (by kernel_rfl) (by kernel_rfl) (by kernel_rfl) (fun _ _ _ h => h) (Or.inl ⟨by rfl, ?hy⟩) (by assumption) ?_
  case hy => (intro w hSw; (try dsimp only at hSw); go_simp; first | done | with_reducible rfl)
  try simp only [Act.put, List.setIfInBounds_toArray, List.set_cons_zero, List.set_cons_succ]
  refine wpAnyH_take (i := 8) (oi := { dst := some 61, op := Op.load 26 (Operand.tmp 7), type := 26, pos := "law.go:41", after := #[], guard := none }) (v := ?_) rfl (by kernel_rfl) (by kernel_rfl) (by kernel_rfl) (fun _ _ _ h => h) (Or.inl ⟨by rfl, ?hy⟩) (by assumption) ?_
  case hy => (intro w hSw; (try dsimp only at hSw); go_simp; first | done | with_reducible rfl)
  try simp only [Act.put, List.setIfInBounds_toArray, List.set_cons_zero, List.set_cons_succ]
  refine wpAnyH_take (i := 9) (oi := { dst := some 62, op := Op.load 23 (Operand.tmp 8), type := 23, pos := "law.go:41", after := #[], guard := none }) (v := ?_) rfl (by kernel_rfl) (by kernel_rfl) (by kernel_rfl) (fun _ _ _ h => h) (Or.inl ⟨by rfl, ?hy⟩) (by assumption) ?_
  case hy => (intro w hSw; (try dsimp only at hSw); go_simp; first | done | with_reducible rfl)
  try simp only [Act.put, List.setIfInBounds_toArray, List.set_cons_zero, List.set_cons_succ]
  refine wpAnyH_take (i := 10) (oi := { dst := some 63, op := Op.move (Operand.tmp 2), type := 3, pos := "law.go:41", after := #[], guard := none }) (v := ?_) rfl (by kernel_rfl) (by kernel_rfl) (by kernel_rfl) (fun _ _ _ h => h) (Or.inl ⟨by rfl, ?hy⟩) (by assumption) ?_
  case hy => (intro w hSw; (try dsimp only at hSw); go_simp; first | done | with_reducible rfl)
  try simp only [Act.put, List.setIfInBounds_toArray, List.set_cons_zero, List.set_cons_succ]
  refine wpAnyH_take (i := 11) (oi := { dst := some 64, op := Op.move (Operand.tmp 3), type := 3, pos := "law.go:41", after := #[], guard := none }) (v := ?_) rfl (by kernel_rfl) (by kernel_rfl) (by kernel_rfl) (fun _ _ _ h => h) (Or.inl ⟨by rfl, ?hy⟩) (by assumption) ?_
  case hy => (intro w hSw; (try dsimp only at hSw); go_simp; first | done | with_reducible rfl)
  try simp only [Act.put, List.setIfInBounds_toArray, List.set_cons_zero, List.set_cons_succ]
  refine wpAnyH_take (i := 12) (oi := { dst := some 65, op := Op.move (Operand.tmp 4), type := 3, pos := "law.go:41", after := #[], guard := none }) (v := ?_) rfl (by kernel_rfl) (by kernel_rfl) (by kernel_rfl) (fun _ _ _ h => h) (Or.inl ⟨by rfl, ?hy⟩) (by assumption) ?_
  case hy => (intro w hSw; (try dsimp only at hSw); go_simp; first | done | with_reducible rfl)
  try simp only [Act.put, List.setIfInBounds_toArray, List.set_cons_zero, List.set_cons_succ]
  refine wpAnyH_take (i := 13) (oi := { dst := some 66, op := Op.move (Operand.tmp 5), type := 3, pos := "law.go:41", after := #[], guard := none }) (v := ?_) rfl (by kernel_rfl) (by kernel_rfl) (by kernel_rfl) (fun _ _ _ h => h) (Or.inl ⟨by rfl, ?hy⟩) (by assumption) ?_
  case hy => (intro w hSw; (try dsimp only at hSw); go_simp; first | done | with_reducible rfl)
  try simp only [Act.put, List.setIfInBounds_toArray, List.set_cons_zero, List.set_cons_succ]
  refine wpAnyH_take (i := 14) (oi := { dst := some 67, op := Op.load 28 (Operand.tmp 13), type := 28, pos := "law.go:41", after := #[], guard := none }) (v := ?_) rfl (by kernel_rfl) (by kernel_rfl) (by kernel_rfl) (fun _ _ _ h => h) (Or.inl ⟨by rfl, ?hy⟩) (by assumption) ?_
  case hy => (intro w hSw; (try dsimp only at hSw); go_simp; first | done | with_reducible rfl)
  try simp only [Act.put, List.setIfInBounds_toArray, List.set_cons_zero, List.set_cons_succ]
  refine wpAnyH_ready (rs := [7]) (by kernel_rfl) (by simp) ?_
  refine AllReadyH.cons (o := { dst := some 60, op := Op.call { callee := Callee.value (Operand.func 27), args := #[Operand.tmp 53, Operand.tmp 54, Operand.tmp 55, Operand.tmp 56, Operand.tmp 57, Operand.tmp 58, Operand.tmp 59], argTypes := #[26, 23, 3, 3, 3, 3, 28] }, type := 26, pos := "law.go:41", after := #[{ on := 0, ground := Ground.data }, { on := 1, ground := Ground.data }, { on := 2, ground := Ground.data }, { on := 3, ground := Ground.data }, { on := 4, ground := Ground.data }, { on := 5, ground := Ground.data }, { on := 6, ground := Ground.data }], guard := none }) rfl (fun K hK => ?_) AllReadyH.nil
  go_simp
  (go_at_call 27; with_reducible refine Calls.mono (shadow_any B ao n m g off f D dx dy k j p _ HU.out.1 HU.out.2.1 (HV.out.below HX.out.low) HU.out.2.2.1 HU.out.2.2.2.1 HU.out.2.2.2.2.1 HU.out.2.2.2.2.2.1 HU.out.2.2.2.2.2.2.1 HU.out.2.2.2.2.2.2.2.1 HU.out.2.2.2.2.2.2.2.2.1 HU.out.2.2.2.2.2.2.2.2.2) ?_; rintro e wc ⟨hr, hb⟩; obtain ⟨uo, un, um, ug, uoff, rfl, hO, hg1, hg2, hln⟩ := retG hr; have HSu := hid hO.v; have HLu := hid hln; replace HX := hid (HX.out.below hb); clear hr hO hg1 hg2 hln hb)
  go_wp2_with fail
  refine hK.out _ _ ?_ (fun hHeld => ?_)
  · exact ⟨HX.out.b.c0, HX.out.b.c1, HX.out.b.c2, HX.out.b.c3, HX.out.b.c4, HX.out.d.c0, HX.out.d.c1, HX.out.d.c2, HX.out.d.c3, HX.out.x.c0, HX.out.x.c1, HX.out.x.c2, HX.out.x.c3⟩
  clear hK K
  try simp only [Act.put, List.setIfInBounds_toArray, List.set_cons_zero, List.set_cons_succ]
  refine wpAnyH_ready (rs := [15]) (by kernel_rfl) (by simp) ?_
  refine AllReadyH.cons (o := { dst := some 68, op := Op.call { callee := Callee.value (Operand.func 28), args := #[Operand.tmp 61, Operand.tmp 62, Operand.tmp 63, Operand.tmp 64, Operand.tmp 65, Operand.tmp 66, Operand.tmp 67], argTypes := #[26, 23, 3, 3, 3, 3, 28] }, type := 26, pos := "law.go:41", after := #[{ on := 8, ground := Ground.data }, { on := 9, ground := Ground.data }, { on := 10, ground := Ground.data }, { on := 11, ground := Ground.data }, { on := 12, ground := Ground.data }, { on := 13, ground := Ground.data }, { on := 14, ground := Ground.data }, { on := 7, ground := Ground.chain }], guard := none }) rfl (fun K hK => ?_) AllReadyH.nil
  go_simp
  (go_at_call 28; with_reducible refine Calls.mono (refShadow_any B ao n m g off f D dx dy k j p _ HU.out.1 HU.out.2.1 (HV.out.below HX.out.low) HU.out.2.2.1 HU.out.2.2.2.1 HU.out.2.2.2.2.1 HU.out.2.2.2.2.2.1 HU.out.2.2.2.2.2.2.1 HU.out.2.2.2.2.2.2.2.1 HU.out.2.2.2.2.2.2.2.2.1 HU.out.2.2.2.2.2.2.2.2.2) ?_; rintro e wc ⟨hr, hb⟩; obtain ⟨vo, vn, vm', vg, voff, rfl, hO, hg1, hg2, hln⟩ := retG hr; have hnn := HLu.out.symm.trans hln; subst hnn; have HSv := hid hO.v; replace HSu := hid (HSu.out.below hb); replace HX := hid (HX.out.below hb); clear hr hO hg1 hg2 hln hb)
  go_wp2_with fail
  refine hK.out _ _ ?_ (fun hHeld => ?_)
  · exact ⟨HX.out.b.c0, HX.out.b.c1, HX.out.b.c2, HX.out.b.c3, HX.out.b.c4, HX.out.d.c0, HX.out.d.c1, HX.out.d.c2, HX.out.d.c3, HX.out.x.c0, HX.out.x.c1, HX.out.x.c2, HX.out.x.c3⟩
  clear hK K
  try simp only [Act.put, List.setIfInBounds_toArray, List.set_cons_zero, List.set_cons_succ]
  refine wpAnyH_ready (rs := [16]) (by kernel_rfl) (by simp) ?_
  refine AllReadyH.cons (o := { dst := some 69, op := Op.call { callee := Callee.value (Operand.func 17), args := #[Operand.tmp 60, Operand.tmp 68], argTypes := #[26, 26] }, type := 4, pos := "law.go:41", after := #[{ on := 7, ground := Ground.data }, { on := 15, ground := Ground.data }, { on := 15, ground := Ground.chain }], guard := none }) rfl (fun K hK => ?_) AllReadyH.nil
  go_simp
  (go_at_call 17; with_reducible refine Calls.mono (same_yes (orN D) uo un um ug uoff vo vm' vg voff _ _ HSu.out HSv.out) ?_; rintro e wc ⟨rfl, hb⟩; replace HX := hid (HX.out.below hb); clear hb)
  go_wp2_with fail
  refine hK.out _ _ ?_ (fun hHeld => ?_)
  · exact ⟨HX.out.b.c0, HX.out.b.c1, HX.out.b.c2, HX.out.b.c3, HX.out.b.c4, HX.out.d.c0, HX.out.d.c1, HX.out.d.c2, HX.out.d.c3, HX.out.x.c0, HX.out.x.c1, HX.out.x.c2, HX.out.x.c3⟩
  clear hK K
  try simp only [Act.put, List.setIfInBounds_toArray, List.set_cons_zero, List.set_cons_succ]
  refine wpAnyH_take (i := 17) (oi := { dst := some 14, op := Op.assign (Operand.tmp 69), type := 4, pos := "law.go:41", after := #[{ on := 16, ground := Ground.data }, { on := 16, ground := Ground.chain }, { on := 0, ground := Ground.phase }, { on := 1, ground := Ground.phase }, { on := 2, ground := Ground.phase }, { on := 3, ground := Ground.phase }, { on := 4, ground := Ground.phase }, { on := 5, ground := Ground.phase }, { on := 6, ground := Ground.phase }, { on := 7, ground := Ground.phase }, { on := 8, ground := Ground.phase }, { on := 9, ground := Ground.phase }, { on := 10, ground := Ground.phase }, { on := 11, ground := Ground.phase }, { on := 12, ground := Ground.phase }, { on := 13, ground := Ground.phase }, { on := 14, ground := Ground.phase }, { on := 15, ground := Ground.phase }, { on := 16, ground := Ground.phase }], guard := none }) (v := ?_) rfl (by kernel_rfl) (by kernel_rfl) (by kernel_rfl) (fun _ _ _ h => h) (Or.inl ⟨by rfl, ?hy⟩) (by assumption) ?_
  case hy => (intro w hSw; (try dsimp only at hSw); go_simp; first | done | with_reducible rfl)
  try simp only [Act.put, List.setIfInBounds_toArray, List.set_cons_zero, List.set_cons_succ]
  refine wpAnyH_done (by kernel_rfl) ?_ _
  go_wp2
  go_ret
  exact ⟨rfl, HX.out.low⟩

theorem own : ownKnob Try.prog.godebug = none := by kernel_rfl

set_option maxRecDepth 100000 in
theorem lifted (os : Os) (started : os.Started) (H : Type) (enc : TypeId × Value → H) :
    ReturnsInHanded {} Try.checked os 4 .any (Rows.moveShadowsSpec.pre6 enc Try.prog Try.f4 Rows.moveShadowsRow.domain false) (Rows.moveShadowsSpec.post enc Try.prog Try.f4 false true false false) := by
  refine returnsInHanded_of_change (C := Try.checked) own started (by kernel_rfl) Try.func4
    (ChangeSpec.witness6 (enc := enc) (C := Try.checked) false ⟨#[], #[.agg #[.int .i64 0, .int .i64 0, .int .i64 0, .int .i64 0, .slice none 0 0], .agg #[.int .i64 0, .int .i64 0, .int .i64 0, .int .i64 0], .int .i64 0, .int .i64 0, .int .i64 0, .int .i64 0, .agg #[.int .u8 0, .int .u8 0, .int .u8 0, .int .u8 0]], []⟩ 8 (by kernel_rfl) (by kernel_rfl) (by kernel_rfl) (by kernel_rfl)) ?_
  intro W base args ds gs before hval0 hW hcnd _
  have hval : ∀ (j : Nat) t v, Try.f4.params[j]? = some t → args[j]? = some v → Value.okWide Try.prog W .any base t v := hval0
  have hW' := hW
  obtain ⟨p, q, hA0, hV, rfl, hfz, hnd⟩ := hW
  have hA : DataW.TrodAll enc Try.prog W 0 (fun _ => true) true Try.f4.params.toList args.toList ds p := hA0
  rw [Try.params4] at hA hval
  obtain ⟨v0, vs0, d0, ds0, p0, q0, hargs, rfl, rfl, h0, r0⟩ := trodAll_cons hA
  obtain ⟨v1, vs1, d1, ds1, p1, q1, rfl, rfl, rfl, h1, r1⟩ := trodAll_cons r0
  obtain ⟨v2, vs2, d2, ds2, p2, q2, rfl, rfl, rfl, h2, r2⟩ := trodAll_cons r1
  obtain ⟨v3, vs3, d3, ds3, p3, q3, rfl, rfl, rfl, h3, r3⟩ := trodAll_cons r2
  obtain ⟨v4, vs4, d4, ds4, p4, q4, rfl, rfl, rfl, h4, r4⟩ := trodAll_cons r3
  obtain ⟨v5, vs5, d5, ds5, p5, q5, rfl, rfl, rfl, h5, r5⟩ := trodAll_cons r4
  obtain ⟨v6, vs6, d6, ds6, p6, q6, rfl, rfl, rfl, h6, r6⟩ := trodAll_cons r5
  obtain ⟨rfl, rfl, rfl⟩ := trodAll_nil r6
  obtain rfl : args = #[v0, v1, v2, v3, v4, v5, v6] := by cases args; simp_all
  obtain ⟨rfl, rfl⟩ := trodVars_none hV
  obtain ⟨B, ao, n, c, g, off, l, rfl, hv0, hp0⟩ := open_buf (hval 0 26 v0 rfl rfl) h0
  obtain ⟨D, rfl⟩ := open_rect (hval 1 23 v1 rfl rfl) h1
  obtain ⟨dx, rfl, -, -, -⟩ := open_int Try.underlying3 (hval 2 3 v2 rfl rfl) h2
  obtain ⟨dy, rfl, -, -, -⟩ := open_int Try.underlying3 (hval 3 3 v3 rfl rfl) h3
  obtain ⟨rx, rfl, -, -, -⟩ := open_int Try.underlying3 (hval 4 3 v4 rfl rfl) h4
  obtain ⟨ry, rfl, -, -, -⟩ := open_int Try.underlying3 (hval 5 3 v5 rfl rfl) h5
  obtain ⟨px, rfl, hb6⟩ := open_px (hval 6 28 v6 rfl rfl) h6
  clear hA0 hval0
  simp only [List.append_nil] at hW'
  have hlt : ∀ x ∈ p0 ++ (p1 ++ (p2 ++ (p3 ++ (p4 ++ (p5 ++ (p6)))))), x.block < W.heap.size := fun x hx => by simpa using hW'.lt x (by simpa using hx)
  refine (walk B ao n c g off l D dx dy rx ry px W hv0 hp0 hb6).mono fun e W' ⟨he, hg⟩ => ?_
  subst he
  have t0 := Below.trod laidOut (by kernel_rfl) (of_decide_eq_true (by kernel_rfl)) h0 hg (fun x hx => hlt x (List.mem_append_left _ hx))
  have t1 := Below.trod laidOut (by kernel_rfl) (of_decide_eq_true (by kernel_rfl)) h1 hg (fun x hx => hlt x (List.mem_append_right _ (List.mem_append_left _ hx)))
  have t2 := Below.trod laidOut (by kernel_rfl) (of_decide_eq_true (by kernel_rfl)) h2 hg (fun x hx => hlt x (List.mem_append_right _ (List.mem_append_right _ (List.mem_append_left _ hx))))
  have t3 := Below.trod laidOut (by kernel_rfl) (of_decide_eq_true (by kernel_rfl)) h3 hg (fun x hx => hlt x (List.mem_append_right _ (List.mem_append_right _ (List.mem_append_right _ (List.mem_append_left _ hx)))))
  have t4 := Below.trod laidOut (by kernel_rfl) (of_decide_eq_true (by kernel_rfl)) h4 hg (fun x hx => hlt x (List.mem_append_right _ (List.mem_append_right _ (List.mem_append_right _ (List.mem_append_right _ (List.mem_append_left _ hx))))))
  have t5 := Below.trod laidOut (by kernel_rfl) (of_decide_eq_true (by kernel_rfl)) h5 hg (fun x hx => hlt x (List.mem_append_right _ (List.mem_append_right _ (List.mem_append_right _ (List.mem_append_right _ (List.mem_append_right _ (List.mem_append_left _ hx)))))))
  have t6 := Below.trod laidOut (by kernel_rfl) (of_decide_eq_true (by kernel_rfl)) h6 hg (fun x hx => hlt x (List.mem_append_right _ (List.mem_append_right _ (List.mem_append_right _ (List.mem_append_right _ (List.mem_append_right _ (List.mem_append_right _ (hx))))))))
  exact ⟨_, rfl, ⟨_, _, _, _, _, _, hW', (trodAll_cons_mk (shut_bool Try.underlying4 _) trodAll_mk0), (trodAll_cons_mk t0 (trodAll_cons_mk t1 (trodAll_cons_mk t2 (trodAll_cons_mk t3 (trodAll_cons_mk t4 (trodAll_cons_mk t5 (trodAll_cons_mk t6 trodAll_mk0))))))), rfl, hg.frame _, fun h => by cases h⟩⟩

theorem over : Rows.moveShadowsRow.holds Try.pinned (OpenSpec.ofChange Rows.moveShadowsSpec) :=
  OpenClaim.holds_of_wide 4 Try.f4 rfl rfl rfl rfl rfl rfl rfl ⟨rfl, rfl, rfl, rfl, rfl⟩ rfl rfl rfl rfl rfl (by kernel_rfl) Try.func4 (by kernel_rfl)
    (of_decide_eq_true (by kernel_rfl)) (by unfold Func.isWrapper; first | (rw [if_pos (by decide +kernel)]; kernel_rfl) | (rw [if_neg (by decide +kernel)]; exact ⟨rfl, rfl⟩))
    (fun os started H enc _ => lifted os started H enc)

theorem proved : Rows.MoveShadowsSaid := over
#print axioms proved
end Go.Proofs.Ytfgfgfmimejpdaa.moveShadows
