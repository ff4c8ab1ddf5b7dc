/- What is offset, tiled, clipped and flooded of right buffers is what the document says; no condition. -/
import Derived.Test.YtfgfgfmimejpdaaRows
import Derived.WalkKit
import Derived.ProofKit
import Derived.OpenShut
import Derived.Test.YtfgfgfmimejpdaaOpen
import Derived.Test.YtfgfgfmimejpdaaLawS
import Derived.Test.YtfgfgfmimejpdaaAwake
import Derived.Test.YtfgfgfmimejpdaaRefTile
import Derived.Test.YtfgfgfmimejpdaaMoves1
import Derived.Deep.DeepCutAuto
namespace Go.Proofs.Ytfgfgfmimejpdaa.movePlaces
open Go.ChangeShapes Go.WideShapes Go.ChangeAt Go.RowKit Num
set_option linter.unusedVariables false
set_option linter.unusedSimpArgs false
/-- what is handed in stands -/
structure Kp (W : World) (B : R) (ao : Option Addr) (n m : Nat) (D : R) (T : R) (p : X) (w : World) : Prop where
  b : Has5 w W.heap.size B ao n m
  d : Rc.Has4 w (W.heap.size + 1) (.int .i64 D.x0) (.int .i64 D.y0) (.int .i64 D.x1) (.int .i64 D.y1)
  t : Rc.Has4 w (W.heap.size + 1 + 1) (.int .i64 T.x0) (.int .i64 T.y0) (.int .i64 T.x1) (.int .i64 T.y1)
  x : Rc.Has4 w (W.heap.size + 1 + 1 + 1) (.int .u8 p.c0) (.int .u8 p.c1) (.int .u8 p.c2) (.int .u8 p.c3)
  low : Below W.heap.size W w
  sz : W.heap.size + 1 + 1 + 1 + 1 ≤ w.heap.size
theorem Kp.below {W : World} {B : R} {ao : Option Addr} {n m : Nat} {D : R} {T : R} {p : X} {w w' : World} (x : Kp W B ao n m D T p w) (hb : Below w.heap.size w w') : Kp W B ao n m D T p w' := ⟨x.b.below hb, x.d.below hb, x.t.below hb, x.x.below hb, x.low.trans (hb.mono x.low.size), Nat.le_trans x.sz hb.size⟩
theorem Kp.but {W : World} {B : R} {ao : Option Addr} {n m : Nat} {D : R} {T : R} {p : X} {w w' : World} (x : Kp W B ao n m D T p w) {j : Nat} (hb : But j w w') (hj : W.heap.size + 1 + 1 + 1 + 1 ≤ j) : Kp W B ao n m D T p w' := ⟨x.b.but hb (by omega), has4_but x.d hb (by omega), has4_but x.t hb (by omega), has4_but x.x hb (by omega), x.low.trans (hb.low (by omega) x.low.size), Nat.le_trans x.sz hb.size⟩
theorem kp_new (W : World) (B : R) (ao : Option Addr) (n m : Nat) (D : R) (T : R) (p : X) : Kp W B ao n m D T p (((((W.alloc (.cells #[.int .i64 B.x0, .int .i64 B.y0, .int .i64 B.x1, .int .i64 B.y1, .slice ao n m] 26)).alloc (.cells #[.int .i64 D.x0, .int .i64 D.y0, .int .i64 D.x1, .int .i64 D.y1] 23)).alloc (.cells #[.int .i64 T.x0, .int .i64 T.y0, .int .i64 T.x1, .int .i64 T.y1] 23)).alloc (.cells #[.int .u8 p.c0, .int .u8 p.c1, .int .u8 p.c2, .int .u8 p.c3] 28))) := ⟨(((Has5.new rfl _ _ _ _ _ _ _ _).alloc _).alloc _).alloc _, ((Rc.Has4.new (by simp) _ _ _ _ _).alloc _).alloc _, (Rc.Has4.new (by simp) _ _ _ _ _).alloc _, Rc.Has4.new (by simp) _ _ _ _ _, (((((Below.refl _ _).alloc (Nat.le_refl _) _).alloc (by simp) _).alloc (by simp; omega) _).alloc (by simp; omega) _), by simp⟩

set_option maxRecDepth 100000 in
set_option maxHeartbeats 8000000 in
theorem walk (B : R) (ao : Option Addr) (n m g off : Nat) (l : List X) (D T : R) (dx dy : Int) (p : X) (W : World) (h : Vx W ao n m g off l) (hp : ∀ p, p ∈ l → byteX p) (hpx : byteX p) :
    Calls Try.prog 3 #[.agg #[.int .i64 B.x0, .int .i64 B.y0, .int .i64 B.x1, .int .i64 B.y1, .slice ao n m], .agg #[.int .i64 D.x0, .int .i64 D.y0, .int .i64 D.x1, .int .i64 D.y1], .agg #[.int .i64 T.x0, .int .i64 T.y0, .int .i64 T.x1, .int .i64 T.y1], .int .i64 dx, .int .i64 dy, .agg #[.int .u8 p.c0, .int .u8 p.c1, .int .u8 p.c2, .int .u8 p.c3]] W fun e w' => e = .returned (.bool true) ∧ Below W.heap.size W w' := by
  have hn := vx_small h
  have HV := hid h
  have HX : Hid (Kp W B ao n m D T p (((((W.alloc (.cells #[.int .i64 B.x0, .int .i64 B.y0, .int .i64 B.x1, .int .i64 B.y1, .slice ao n m] 26)).alloc (.cells #[.int .i64 D.x0, .int .i64 D.y0, .int .i64 D.x1, .int .i64 D.y1] 23)).alloc (.cells #[.int .i64 T.x0, .int .i64 T.y0, .int .i64 T.x1, .int .i64 T.y1] 23)).alloc (.cells #[.int .u8 p.c0, .int .u8 p.c1, .int .u8 p.c2, .int .u8 p.c3] 28)))) := kp_new W B ao n m D T p
  obtain ⟨b0, b1, b2, b3, b4, bf⟩ := HX.out.b
  obtain ⟨d0, d1, d2, d3, df⟩ := HX.out.d
  obtain ⟨t0, t1, t2, t3, tf⟩ := HX.out.t
  obtain ⟨x0, x1, x2, x3, xf⟩ := HX.out.x
  rcases h1 : rightT B n l with _ | _
  · have HR := hid (And.intro h1 (And.intro trivial (And.intro trivial (And.intro trivial (And.intro trivial (trivial))))))
    clear h1 h hp hpx
    go_enter Try.func3, Try.ntmps3
    go_wp2_with (first
      | (go_at_call 9; with_reducible refine Calls.mono (awake_any _) ?_; rintro e wc ⟨rfl, hb⟩; replace HX := hid (HX.out.below hb); clear hb; clear b0 b1 b2 b3 b4 bf d0 d1 d2 d3 df t0 t1 t2 t3 tf x0 x1 x2 x3 xf; obtain ⟨b0, b1, b2, b3, b4, bf⟩ := HX.out.b; obtain ⟨d0, d1, d2, d3, df⟩ := HX.out.d; obtain ⟨t0, t1, t2, t3, tf⟩ := HX.out.t; obtain ⟨x0, x1, x2, x3, xf⟩ := HX.out.x)
      | (go_at_call 10; with_reducible refine Calls.mono (right10_any B ao n m g off _ _ (HV.out.below HX.out.low)) ?_; rintro e wc ⟨rfl, hb⟩; rw [HR.out.1]; replace HX := hid (HX.out.below hb); clear hb; clear b0 b1 b2 b3 b4 bf d0 d1 d2 d3 df t0 t1 t2 t3 tf x0 x1 x2 x3 xf; obtain ⟨b0, b1, b2, b3, b4, bf⟩ := HX.out.b; obtain ⟨d0, d1, d2, d3, df⟩ := HX.out.d; obtain ⟨t0, t1, t2, t3, tf⟩ := HX.out.t; obtain ⟨x0, x1, x2, x3, xf⟩ := HX.out.x)
      | (go_at_call 11; with_reducible refine Calls.mono (box_law D _) ?_; rintro e wc ⟨rfl, hb⟩; rw [HR.out.2.1]; replace HX := hid (HX.out.below hb); clear hb; clear b0 b1 b2 b3 b4 bf d0 d1 d2 d3 df t0 t1 t2 t3 tf x0 x1 x2 x3 xf; obtain ⟨b0, b1, b2, b3, b4, bf⟩ := HX.out.b; obtain ⟨d0, d1, d2, d3, df⟩ := HX.out.d; obtain ⟨t0, t1, t2, t3, tf⟩ := HX.out.t; obtain ⟨x0, x1, x2, x3, xf⟩ := HX.out.x)
      | (go_at_call 12; with_reducible refine Calls.mono (Rc.right_any T.x0 T.y0 T.x1 T.y1 _) ?_; rintro e wc ⟨rfl, hb⟩; rw [HR.out.2.2.1]; replace HX := hid (HX.out.below hb); clear hb; clear b0 b1 b2 b3 b4 bf d0 d1 d2 d3 df t0 t1 t2 t3 tf x0 x1 x2 x3 xf; obtain ⟨b0, b1, b2, b3, b4, bf⟩ := HX.out.b; obtain ⟨d0, d1, d2, d3, df⟩ := HX.out.d; obtain ⟨t0, t1, t2, t3, tf⟩ := HX.out.t; obtain ⟨x0, x1, x2, x3, xf⟩ := HX.out.x)
      | (go_at_call 13; with_reducible refine Calls.mono (nearM_any dx _) ?_; (fail_if_success have := D1); rintro e wc ⟨rfl, hw⟩; replace hw := hw.symm; subst hw; rw [HR.out.2.2.2.1]; have D1 := hid trivial)
      | (go_at_call 13; with_reducible refine Calls.mono (nearM_any dy _) ?_; rintro e wc ⟨rfl, hw⟩; replace hw := hw.symm; subst hw; rw [HR.out.2.2.2.2.1])
      | (go_at_call 14; with_reducible refine Calls.mono (pxRight_any p _) ?_; rintro e wc ⟨rfl, hb⟩; rw [HR.out.2.2.2.2.2]; replace HX := hid (HX.out.below hb); clear hb; clear b0 b1 b2 b3 b4 bf d0 d1 d2 d3 df t0 t1 t2 t3 tf x0 x1 x2 x3 xf; obtain ⟨b0, b1, b2, b3, b4, bf⟩ := HX.out.b; obtain ⟨d0, d1, d2, d3, df⟩ := HX.out.d; obtain ⟨t0, t1, t2, t3, tf⟩ := HX.out.t; obtain ⟨x0, x1, x2, x3, xf⟩ := HX.out.x))
    go_ret
    exact ⟨rfl, HX.out.low⟩
  rcases h2 : fineF D 0 0 400 with _ | _
  · have HR := hid (And.intro h1 (And.intro h2 (And.intro trivial (And.intro trivial (And.intro trivial (trivial))))))
    clear h1 h2 h hp hpx
    go_enter Try.func3, Try.ntmps3
    go_wp2_with (first
      | (go_at_call 9; with_reducible refine Calls.mono (awake_any _) ?_; rintro e wc ⟨rfl, hb⟩; replace HX := hid (HX.out.below hb); clear hb; clear b0 b1 b2 b3 b4 bf d0 d1 d2 d3 df t0 t1 t2 t3 tf x0 x1 x2 x3 xf; obtain ⟨b0, b1, b2, b3, b4, bf⟩ := HX.out.b; obtain ⟨d0, d1, d2, d3, df⟩ := HX.out.d; obtain ⟨t0, t1, t2, t3, tf⟩ := HX.out.t; obtain ⟨x0, x1, x2, x3, xf⟩ := HX.out.x)
      | (go_at_call 10; with_reducible refine Calls.mono (right10_any B ao n m g off _ _ (HV.out.below HX.out.low)) ?_; rintro e wc ⟨rfl, hb⟩; rw [HR.out.1]; replace HX := hid (HX.out.below hb); clear hb; clear b0 b1 b2 b3 b4 bf d0 d1 d2 d3 df t0 t1 t2 t3 tf x0 x1 x2 x3 xf; obtain ⟨b0, b1, b2, b3, b4, bf⟩ := HX.out.b; obtain ⟨d0, d1, d2, d3, df⟩ := HX.out.d; obtain ⟨t0, t1, t2, t3, tf⟩ := HX.out.t; obtain ⟨x0, x1, x2, x3, xf⟩ := HX.out.x)
      | (go_at_call 11; with_reducible refine Calls.mono (box_law D _) ?_; rintro e wc ⟨rfl, hb⟩; rw [HR.out.2.1]; replace HX := hid (HX.out.below hb); clear hb; clear b0 b1 b2 b3 b4 bf d0 d1 d2 d3 df t0 t1 t2 t3 tf x0 x1 x2 x3 xf; obtain ⟨b0, b1, b2, b3, b4, bf⟩ := HX.out.b; obtain ⟨d0, d1, d2, d3, df⟩ := HX.out.d; obtain ⟨t0, t1, t2, t3, tf⟩ := HX.out.t; obtain ⟨x0, x1, x2, x3, xf⟩ := HX.out.x)
      | (go_at_call 12; with_reducible refine Calls.mono (Rc.right_any T.x0 T.y0 T.x1 T.y1 _) ?_; rintro e wc ⟨rfl, hb⟩; rw [HR.out.2.2.1]; replace HX := hid (HX.out.below hb); clear hb; clear b0 b1 b2 b3 b4 bf d0 d1 d2 d3 df t0 t1 t2 t3 tf x0 x1 x2 x3 xf; obtain ⟨b0, b1, b2, b3, b4, bf⟩ := HX.out.b; obtain ⟨d0, d1, d2, d3, df⟩ := HX.out.d; obtain ⟨t0, t1, t2, t3, tf⟩ := HX.out.t; obtain ⟨x0, x1, x2, x3, xf⟩ := HX.out.x)
      | (go_at_call 13; with_reducible refine Calls.mono (nearM_any dx _) ?_; (fail_if_success have := D1); rintro e wc ⟨rfl, hw⟩; replace hw := hw.symm; subst hw; rw [HR.out.2.2.2.1]; have D1 := hid trivial)
      | (go_at_call 13; with_reducible refine Calls.mono (nearM_any dy _) ?_; rintro e wc ⟨rfl, hw⟩; replace hw := hw.symm; subst hw; rw [HR.out.2.2.2.2.1])
      | (go_at_call 14; with_reducible refine Calls.mono (pxRight_any p _) ?_; rintro e wc ⟨rfl, hb⟩; rw [HR.out.2.2.2.2.2]; replace HX := hid (HX.out.below hb); clear hb; clear b0 b1 b2 b3 b4 bf d0 d1 d2 d3 df t0 t1 t2 t3 tf x0 x1 x2 x3 xf; obtain ⟨b0, b1, b2, b3, b4, bf⟩ := HX.out.b; obtain ⟨d0, d1, d2, d3, df⟩ := HX.out.d; obtain ⟨t0, t1, t2, t3, tf⟩ := HX.out.t; obtain ⟨x0, x1, x2, x3, xf⟩ := HX.out.x))
    go_ret
    exact ⟨rfl, HX.out.low⟩
  rcases h3 : rightB ⟨T.x0, T.y0, T.x1, T.y1⟩ with _ | _
  · have HR := hid (And.intro h1 (And.intro h2 (And.intro h3 (And.intro trivial (And.intro trivial (trivial))))))
    clear h1 h2 h3 h hp hpx
    go_enter Try.func3, Try.ntmps3
    go_wp2_with (first
      | (go_at_call 9; with_reducible refine Calls.mono (awake_any _) ?_; rintro e wc ⟨rfl, hb⟩; replace HX := hid (HX.out.below hb); clear hb; clear b0 b1 b2 b3 b4 bf d0 d1 d2 d3 df t0 t1 t2 t3 tf x0 x1 x2 x3 xf; obtain ⟨b0, b1, b2, b3, b4, bf⟩ := HX.out.b; obtain ⟨d0, d1, d2, d3, df⟩ := HX.out.d; obtain ⟨t0, t1, t2, t3, tf⟩ := HX.out.t; obtain ⟨x0, x1, x2, x3, xf⟩ := HX.out.x)
      | (go_at_call 10; with_reducible refine Calls.mono (right10_any B ao n m g off _ _ (HV.out.below HX.out.low)) ?_; rintro e wc ⟨rfl, hb⟩; rw [HR.out.1]; replace HX := hid (HX.out.below hb); clear hb; clear b0 b1 b2 b3 b4 bf d0 d1 d2 d3 df t0 t1 t2 t3 tf x0 x1 x2 x3 xf; obtain ⟨b0, b1, b2, b3, b4, bf⟩ := HX.out.b; obtain ⟨d0, d1, d2, d3, df⟩ := HX.out.d; obtain ⟨t0, t1, t2, t3, tf⟩ := HX.out.t; obtain ⟨x0, x1, x2, x3, xf⟩ := HX.out.x)
      | (go_at_call 11; with_reducible refine Calls.mono (box_law D _) ?_; rintro e wc ⟨rfl, hb⟩; rw [HR.out.2.1]; replace HX := hid (HX.out.below hb); clear hb; clear b0 b1 b2 b3 b4 bf d0 d1 d2 d3 df t0 t1 t2 t3 tf x0 x1 x2 x3 xf; obtain ⟨b0, b1, b2, b3, b4, bf⟩ := HX.out.b; obtain ⟨d0, d1, d2, d3, df⟩ := HX.out.d; obtain ⟨t0, t1, t2, t3, tf⟩ := HX.out.t; obtain ⟨x0, x1, x2, x3, xf⟩ := HX.out.x)
      | (go_at_call 12; with_reducible refine Calls.mono (Rc.right_any T.x0 T.y0 T.x1 T.y1 _) ?_; rintro e wc ⟨rfl, hb⟩; rw [HR.out.2.2.1]; replace HX := hid (HX.out.below hb); clear hb; clear b0 b1 b2 b3 b4 bf d0 d1 d2 d3 df t0 t1 t2 t3 tf x0 x1 x2 x3 xf; obtain ⟨b0, b1, b2, b3, b4, bf⟩ := HX.out.b; obtain ⟨d0, d1, d2, d3, df⟩ := HX.out.d; obtain ⟨t0, t1, t2, t3, tf⟩ := HX.out.t; obtain ⟨x0, x1, x2, x3, xf⟩ := HX.out.x)
      | (go_at_call 13; with_reducible refine Calls.mono (nearM_any dx _) ?_; (fail_if_success have := D1); rintro e wc ⟨rfl, hw⟩; replace hw := hw.symm; subst hw; rw [HR.out.2.2.2.1]; have D1 := hid trivial)
      | (go_at_call 13; with_reducible refine Calls.mono (nearM_any dy _) ?_; rintro e wc ⟨rfl, hw⟩; replace hw := hw.symm; subst hw; rw [HR.out.2.2.2.2.1])
      | (go_at_call 14; with_reducible refine Calls.mono (pxRight_any p _) ?_; rintro e wc ⟨rfl, hb⟩; rw [HR.out.2.2.2.2.2]; replace HX := hid (HX.out.below hb); clear hb; clear b0 b1 b2 b3 b4 bf d0 d1 d2 d3 df t0 t1 t2 t3 tf x0 x1 x2 x3 xf; obtain ⟨b0, b1, b2, b3, b4, bf⟩ := HX.out.b; obtain ⟨d0, d1, d2, d3, df⟩ := HX.out.d; obtain ⟨t0, t1, t2, t3, tf⟩ := HX.out.t; obtain ⟨x0, x1, x2, x3, xf⟩ := HX.out.x))
    go_ret
    exact ⟨rfl, HX.out.low⟩
  rcases h4 : nearM dx with _ | _
  · have HR := hid (And.intro h1 (And.intro h2 (And.intro h3 (And.intro h4 (And.intro trivial (trivial))))))
    clear h1 h2 h3 h4 h hp hpx
    go_enter Try.func3, Try.ntmps3
    go_wp2_with (first
      | (go_at_call 9; with_reducible refine Calls.mono (awake_any _) ?_; rintro e wc ⟨rfl, hb⟩; replace HX := hid (HX.out.below hb); clear hb; clear b0 b1 b2 b3 b4 bf d0 d1 d2 d3 df t0 t1 t2 t3 tf x0 x1 x2 x3 xf; obtain ⟨b0, b1, b2, b3, b4, bf⟩ := HX.out.b; obtain ⟨d0, d1, d2, d3, df⟩ := HX.out.d; obtain ⟨t0, t1, t2, t3, tf⟩ := HX.out.t; obtain ⟨x0, x1, x2, x3, xf⟩ := HX.out.x)
      | (go_at_call 10; with_reducible refine Calls.mono (right10_any B ao n m g off _ _ (HV.out.below HX.out.low)) ?_; rintro e wc ⟨rfl, hb⟩; rw [HR.out.1]; replace HX := hid (HX.out.below hb); clear hb; clear b0 b1 b2 b3 b4 bf d0 d1 d2 d3 df t0 t1 t2 t3 tf x0 x1 x2 x3 xf; obtain ⟨b0, b1, b2, b3, b4, bf⟩ := HX.out.b; obtain ⟨d0, d1, d2, d3, df⟩ := HX.out.d; obtain ⟨t0, t1, t2, t3, tf⟩ := HX.out.t; obtain ⟨x0, x1, x2, x3, xf⟩ := HX.out.x)
      | (go_at_call 11; with_reducible refine Calls.mono (box_law D _) ?_; rintro e wc ⟨rfl, hb⟩; rw [HR.out.2.1]; replace HX := hid (HX.out.below hb); clear hb; clear b0 b1 b2 b3 b4 bf d0 d1 d2 d3 df t0 t1 t2 t3 tf x0 x1 x2 x3 xf; obtain ⟨b0, b1, b2, b3, b4, bf⟩ := HX.out.b; obtain ⟨d0, d1, d2, d3, df⟩ := HX.out.d; obtain ⟨t0, t1, t2, t3, tf⟩ := HX.out.t; obtain ⟨x0, x1, x2, x3, xf⟩ := HX.out.x)
      | (go_at_call 12; with_reducible refine Calls.mono (Rc.right_any T.x0 T.y0 T.x1 T.y1 _) ?_; rintro e wc ⟨rfl, hb⟩; rw [HR.out.2.2.1]; replace HX := hid (HX.out.below hb); clear hb; clear b0 b1 b2 b3 b4 bf d0 d1 d2 d3 df t0 t1 t2 t3 tf x0 x1 x2 x3 xf; obtain ⟨b0, b1, b2, b3, b4, bf⟩ := HX.out.b; obtain ⟨d0, d1, d2, d3, df⟩ := HX.out.d; obtain ⟨t0, t1, t2, t3, tf⟩ := HX.out.t; obtain ⟨x0, x1, x2, x3, xf⟩ := HX.out.x)
      | (go_at_call 13; with_reducible refine Calls.mono (nearM_any dx _) ?_; (fail_if_success have := D1); rintro e wc ⟨rfl, hw⟩; replace hw := hw.symm; subst hw; rw [HR.out.2.2.2.1]; have D1 := hid trivial)
      | (go_at_call 13; with_reducible refine Calls.mono (nearM_any dy _) ?_; rintro e wc ⟨rfl, hw⟩; replace hw := hw.symm; subst hw; rw [HR.out.2.2.2.2.1])
      | (go_at_call 14; with_reducible refine Calls.mono (pxRight_any p _) ?_; rintro e wc ⟨rfl, hb⟩; rw [HR.out.2.2.2.2.2]; replace HX := hid (HX.out.below hb); clear hb; clear b0 b1 b2 b3 b4 bf d0 d1 d2 d3 df t0 t1 t2 t3 tf x0 x1 x2 x3 xf; obtain ⟨b0, b1, b2, b3, b4, bf⟩ := HX.out.b; obtain ⟨d0, d1, d2, d3, df⟩ := HX.out.d; obtain ⟨t0, t1, t2, t3, tf⟩ := HX.out.t; obtain ⟨x0, x1, x2, x3, xf⟩ := HX.out.x))
    go_ret
    exact ⟨rfl, HX.out.low⟩
  rcases h5 : nearM dy with _ | _
  · have HR := hid (And.intro h1 (And.intro h2 (And.intro h3 (And.intro h4 (And.intro h5 (trivial))))))
    clear h1 h2 h3 h4 h5 h hp hpx
    go_enter Try.func3, Try.ntmps3
    go_wp2_with (first
      | (go_at_call 9; with_reducible refine Calls.mono (awake_any _) ?_; rintro e wc ⟨rfl, hb⟩; replace HX := hid (HX.out.below hb); clear hb; clear b0 b1 b2 b3 b4 bf d0 d1 d2 d3 df t0 t1 t2 t3 tf x0 x1 x2 x3 xf; obtain ⟨b0, b1, b2, b3, b4, bf⟩ := HX.out.b; obtain ⟨d0, d1, d2, d3, df⟩ := HX.out.d; obtain ⟨t0, t1, t2, t3, tf⟩ := HX.out.t; obtain ⟨x0, x1, x2, x3, xf⟩ := HX.out.x)
      | (go_at_call 10; with_reducible refine Calls.mono (right10_any B ao n m g off _ _ (HV.out.below HX.out.low)) ?_; rintro e wc ⟨rfl, hb⟩; rw [HR.out.1]; replace HX := hid (HX.out.below hb); clear hb; clear b0 b1 b2 b3 b4 bf d0 d1 d2 d3 df t0 t1 t2 t3 tf x0 x1 x2 x3 xf; obtain ⟨b0, b1, b2, b3, b4, bf⟩ := HX.out.b; obtain ⟨d0, d1, d2, d3, df⟩ := HX.out.d; obtain ⟨t0, t1, t2, t3, tf⟩ := HX.out.t; obtain ⟨x0, x1, x2, x3, xf⟩ := HX.out.x)
      | (go_at_call 11; with_reducible refine Calls.mono (box_law D _) ?_; rintro e wc ⟨rfl, hb⟩; rw [HR.out.2.1]; replace HX := hid (HX.out.below hb); clear hb; clear b0 b1 b2 b3 b4 bf d0 d1 d2 d3 df t0 t1 t2 t3 tf x0 x1 x2 x3 xf; obtain ⟨b0, b1, b2, b3, b4, bf⟩ := HX.out.b; obtain ⟨d0, d1, d2, d3, df⟩ := HX.out.d; obtain ⟨t0, t1, t2, t3, tf⟩ := HX.out.t; obtain ⟨x0, x1, x2, x3, xf⟩ := HX.out.x)
      | (go_at_call 12; with_reducible refine Calls.mono (Rc.right_any T.x0 T.y0 T.x1 T.y1 _) ?_; rintro e wc ⟨rfl, hb⟩; rw [HR.out.2.2.1]; replace HX := hid (HX.out.below hb); clear hb; clear b0 b1 b2 b3 b4 bf d0 d1 d2 d3 df t0 t1 t2 t3 tf x0 x1 x2 x3 xf; obtain ⟨b0, b1, b2, b3, b4, bf⟩ := HX.out.b; obtain ⟨d0, d1, d2, d3, df⟩ := HX.out.d; obtain ⟨t0, t1, t2, t3, tf⟩ := HX.out.t; obtain ⟨x0, x1, x2, x3, xf⟩ := HX.out.x)
      | (go_at_call 13; with_reducible refine Calls.mono (nearM_any dx _) ?_; (fail_if_success have := D1); rintro e wc ⟨rfl, hw⟩; replace hw := hw.symm; subst hw; rw [HR.out.2.2.2.1]; have D1 := hid trivial)
      | (go_at_call 13; with_reducible refine Calls.mono (nearM_any dy _) ?_; rintro e wc ⟨rfl, hw⟩; replace hw := hw.symm; subst hw; rw [HR.out.2.2.2.2.1])
      | (go_at_call 14; with_reducible refine Calls.mono (pxRight_any p _) ?_; rintro e wc ⟨rfl, hb⟩; rw [HR.out.2.2.2.2.2]; replace HX := hid (HX.out.below hb); clear hb; clear b0 b1 b2 b3 b4 bf d0 d1 d2 d3 df t0 t1 t2 t3 tf x0 x1 x2 x3 xf; obtain ⟨b0, b1, b2, b3, b4, bf⟩ := HX.out.b; obtain ⟨d0, d1, d2, d3, df⟩ := HX.out.d; obtain ⟨t0, t1, t2, t3, tf⟩ := HX.out.t; obtain ⟨x0, x1, x2, x3, xf⟩ := HX.out.x))
    go_ret
    exact ⟨rfl, HX.out.low⟩
  rcases h6 : rgtB p with _ | _
  · have HR := hid (And.intro h1 (And.intro h2 (And.intro h3 (And.intro h4 (And.intro h5 (h6))))))
    clear h1 h2 h3 h4 h5 h6 h hp hpx
    go_enter Try.func3, Try.ntmps3
    go_wp2_with (first
      | (go_at_call 9; with_reducible refine Calls.mono (awake_any _) ?_; rintro e wc ⟨rfl, hb⟩; replace HX := hid (HX.out.below hb); clear hb; clear b0 b1 b2 b3 b4 bf d0 d1 d2 d3 df t0 t1 t2 t3 tf x0 x1 x2 x3 xf; obtain ⟨b0, b1, b2, b3, b4, bf⟩ := HX.out.b; obtain ⟨d0, d1, d2, d3, df⟩ := HX.out.d; obtain ⟨t0, t1, t2, t3, tf⟩ := HX.out.t; obtain ⟨x0, x1, x2, x3, xf⟩ := HX.out.x)
      | (go_at_call 10; with_reducible refine Calls.mono (right10_any B ao n m g off _ _ (HV.out.below HX.out.low)) ?_; rintro e wc ⟨rfl, hb⟩; rw [HR.out.1]; replace HX := hid (HX.out.below hb); clear hb; clear b0 b1 b2 b3 b4 bf d0 d1 d2 d3 df t0 t1 t2 t3 tf x0 x1 x2 x3 xf; obtain ⟨b0, b1, b2, b3, b4, bf⟩ := HX.out.b; obtain ⟨d0, d1, d2, d3, df⟩ := HX.out.d; obtain ⟨t0, t1, t2, t3, tf⟩ := HX.out.t; obtain ⟨x0, x1, x2, x3, xf⟩ := HX.out.x)
      | (go_at_call 11; with_reducible refine Calls.mono (box_law D _) ?_; rintro e wc ⟨rfl, hb⟩; rw [HR.out.2.1]; replace HX := hid (HX.out.below hb); clear hb; clear b0 b1 b2 b3 b4 bf d0 d1 d2 d3 df t0 t1 t2 t3 tf x0 x1 x2 x3 xf; obtain ⟨b0, b1, b2, b3, b4, bf⟩ := HX.out.b; obtain ⟨d0, d1, d2, d3, df⟩ := HX.out.d; obtain ⟨t0, t1, t2, t3, tf⟩ := HX.out.t; obtain ⟨x0, x1, x2, x3, xf⟩ := HX.out.x)
      | (go_at_call 12; with_reducible refine Calls.mono (Rc.right_any T.x0 T.y0 T.x1 T.y1 _) ?_; rintro e wc ⟨rfl, hb⟩; rw [HR.out.2.2.1]; replace HX := hid (HX.out.below hb); clear hb; clear b0 b1 b2 b3 b4 bf d0 d1 d2 d3 df t0 t1 t2 t3 tf x0 x1 x2 x3 xf; obtain ⟨b0, b1, b2, b3, b4, bf⟩ := HX.out.b; obtain ⟨d0, d1, d2, d3, df⟩ := HX.out.d; obtain ⟨t0, t1, t2, t3, tf⟩ := HX.out.t; obtain ⟨x0, x1, x2, x3, xf⟩ := HX.out.x)
      | (go_at_call 13; with_reducible refine Calls.mono (nearM_any dx _) ?_; (fail_if_success have := D1); rintro e wc ⟨rfl, hw⟩; replace hw := hw.symm; subst hw; rw [HR.out.2.2.2.1]; have D1 := hid trivial)
      | (go_at_call 13; with_reducible refine Calls.mono (nearM_any dy _) ?_; rintro e wc ⟨rfl, hw⟩; replace hw := hw.symm; subst hw; rw [HR.out.2.2.2.2.1])
      | (go_at_call 14; with_reducible refine Calls.mono (pxRight_any p _) ?_; rintro e wc ⟨rfl, hb⟩; rw [HR.out.2.2.2.2.2]; replace HX := hid (HX.out.below hb); clear hb; clear b0 b1 b2 b3 b4 bf d0 d1 d2 d3 df t0 t1 t2 t3 tf x0 x1 x2 x3 xf; obtain ⟨b0, b1, b2, b3, b4, bf⟩ := HX.out.b; obtain ⟨d0, d1, d2, d3, df⟩ := HX.out.d; obtain ⟨t0, t1, t2, t3, tf⟩ := HX.out.t; obtain ⟨x0, x1, x2, x3, xf⟩ := HX.out.x))
    go_ret
    exact ⟨rfl, HX.out.low⟩
  have HR := hid (And.intro h1 (And.intro h2 (And.intro h3 (And.intro h4 (And.intro h5 (h6))))))
  have HG := gd_of h hp h1
  have HFB := fine_area h2
  have hTk := ok_of_right h3
  have hdx : -4398046511104 ≤ dx ∧ dx ≤ 4398046511104 := by have := of_decide_eq_true h4; omega
  have hdy : -4398046511104 ≤ dy ∧ dy ≤ 4398046511104 := by have := of_decide_eq_true h5; omega
  obtain ⟨f, hf⟩ : ∃ f, f = unimg B l := ⟨_, rfl⟩
  have e1 := HG.im
  rw [← hf] at e1
  have HU : Hid (n ≤ 5000 ∧ bufB B n = true ∧ Ok B ∧ Half D ∧ Ok D ∧ area D ≤ 5000 ∧ (-4398046511104 ≤ dx ∧ dx ≤ 4398046511104) ∧ (-4398046511104 ≤ dy ∧ dy ≤ 4398046511104)) := ⟨by have := HG.n3; omega, HG.buf, HG.ok, HFB.1, HFB.1.ok, by have := HFB.2; omega, hdx, hdy⟩
  have HDH : Hid ((-33554432 ≤ D.x0 ∧ D.x0 ≤ 33554432) ∧ (-33554432 ≤ D.y0 ∧ D.y0 ≤ 33554432) ∧ (-33554432 ≤ D.x1 ∧ D.x1 ≤ 33554432) ∧ (-33554432 ≤ D.y1 ∧ D.y1 ≤ 33554432)) := HFB.1
  have HDB : Hid ((-33554432 ≤ D.x0 ∧ D.x1 ≤ 33554432) ∧ (-33554432 ≤ D.y0 ∧ D.y1 ≤ 33554432)) := by
    obtain ⟨⟨a0, a1⟩, ⟨a2, a3⟩, ⟨a4, a5⟩, a6, a7⟩ := HFB.1
    exact ⟨⟨a0, a5⟩, a2, a7⟩
  clear HG HFB hTk hdx hdy hf h1 h2 h3 h4 h5 h6 hp hpx
  subst e1
  clear h
  go_enter Try.func3, Try.ntmps3
  go_upto_region 3 with (first
      | (go_at_call 9; with_reducible refine Calls.mono (awake_any _) ?_; rintro e wc ⟨rfl, hb⟩; replace HX := hid (HX.out.below hb); clear hb; clear b0 b1 b2 b3 b4 bf d0 d1 d2 d3 df t0 t1 t2 t3 tf x0 x1 x2 x3 xf; obtain ⟨b0, b1, b2, b3, b4, bf⟩ := HX.out.b; obtain ⟨d0, d1, d2, d3, df⟩ := HX.out.d; obtain ⟨t0, t1, t2, t3, tf⟩ := HX.out.t; obtain ⟨x0, x1, x2, x3, xf⟩ := HX.out.x)
      | (go_at_call 10; with_reducible refine Calls.mono (right10_any B ao n m g off _ _ (HV.out.below HX.out.low)) ?_; rintro e wc ⟨rfl, hb⟩; rw [HR.out.1]; replace HX := hid (HX.out.below hb); clear hb; clear b0 b1 b2 b3 b4 bf d0 d1 d2 d3 df t0 t1 t2 t3 tf x0 x1 x2 x3 xf; obtain ⟨b0, b1, b2, b3, b4, bf⟩ := HX.out.b; obtain ⟨d0, d1, d2, d3, df⟩ := HX.out.d; obtain ⟨t0, t1, t2, t3, tf⟩ := HX.out.t; obtain ⟨x0, x1, x2, x3, xf⟩ := HX.out.x)
      | (go_at_call 11; with_reducible refine Calls.mono (box_law D _) ?_; rintro e wc ⟨rfl, hb⟩; rw [HR.out.2.1]; replace HX := hid (HX.out.below hb); clear hb; clear b0 b1 b2 b3 b4 bf d0 d1 d2 d3 df t0 t1 t2 t3 tf x0 x1 x2 x3 xf; obtain ⟨b0, b1, b2, b3, b4, bf⟩ := HX.out.b; obtain ⟨d0, d1, d2, d3, df⟩ := HX.out.d; obtain ⟨t0, t1, t2, t3, tf⟩ := HX.out.t; obtain ⟨x0, x1, x2, x3, xf⟩ := HX.out.x)
      | (go_at_call 12; with_reducible refine Calls.mono (Rc.right_any T.x0 T.y0 T.x1 T.y1 _) ?_; rintro e wc ⟨rfl, hb⟩; rw [HR.out.2.2.1]; replace HX := hid (HX.out.below hb); clear hb; clear b0 b1 b2 b3 b4 bf d0 d1 d2 d3 df t0 t1 t2 t3 tf x0 x1 x2 x3 xf; obtain ⟨b0, b1, b2, b3, b4, bf⟩ := HX.out.b; obtain ⟨d0, d1, d2, d3, df⟩ := HX.out.d; obtain ⟨t0, t1, t2, t3, tf⟩ := HX.out.t; obtain ⟨x0, x1, x2, x3, xf⟩ := HX.out.x)
      | (go_at_call 13; with_reducible refine Calls.mono (nearM_any dx _) ?_; (fail_if_success have := D1); rintro e wc ⟨rfl, hw⟩; replace hw := hw.symm; subst hw; rw [HR.out.2.2.2.1]; have D1 := hid trivial)
      | (go_at_call 13; with_reducible refine Calls.mono (nearM_any dy _) ?_; rintro e wc ⟨rfl, hw⟩; replace hw := hw.symm; subst hw; rw [HR.out.2.2.2.2.1])
      | (go_at_call 14; with_reducible refine Calls.mono (pxRight_any p _) ?_; rintro e wc ⟨rfl, hb⟩; rw [HR.out.2.2.2.2.2]; replace HX := hid (HX.out.below hb); clear hb; clear b0 b1 b2 b3 b4 bf d0 d1 d2 d3 df t0 t1 t2 t3 tf x0 x1 x2 x3 xf; obtain ⟨b0, b1, b2, b3, b4, bf⟩ := HX.out.b; obtain ⟨d0, d1, d2, d3, df⟩ := HX.out.d; obtain ⟨t0, t1, t2, t3, tf⟩ := HX.out.t; obtain ⟨x0, x1, x2, x3, xf⟩ := HX.out.x))
  clear HR D1
  clear b0 b1 b2 b3 b4 bf d0 d1 d2 d3 df t0 t1 t2 t3 tf x0 x1 x2 x3 xf
  go_cut [13] (fun v13 wx => v13 = .bool true ∧ Kp W B ao n m D T p wx)
  case first =>
    replace HX := hid (HX.out.below (Below.refl _ _).drew)
    rcases hE : empB ⟨T.x0, T.y0, T.x1, T.y1⟩ with _ | _
    · have HTE := hid hE
      rcases hH : halfB ⟨T.x0, T.y0, T.x1, T.y1⟩ with _ | _
      · have HTH := hid hH
        clear hE hH
        refine wp_region_held_drew (S := (fun w' => w'.cell? ⟨W.heap.size, 0, none⟩ = some (.int .i64 B.x0) ∧ w'.cell? ⟨W.heap.size, 1, none⟩ = some (.int .i64 B.y0) ∧ w'.cell? ⟨W.heap.size, 2, none⟩ = some (.int .i64 B.x1) ∧ w'.cell? ⟨W.heap.size, 3, none⟩ = some (.int .i64 B.y1) ∧ w'.cell? ⟨W.heap.size, 4, none⟩ = some (.slice ao n m) ∧ w'.cell? ⟨(W.heap.size + 1), 0, none⟩ = some (.int .i64 D.x0) ∧ w'.cell? ⟨(W.heap.size + 1), 1, none⟩ = some (.int .i64 D.y0) ∧ w'.cell? ⟨(W.heap.size + 1), 2, none⟩ = some (.int .i64 D.x1) ∧ w'.cell? ⟨(W.heap.size + 1), 3, none⟩ = some (.int .i64 D.y1) ∧ w'.cell? ⟨(W.heap.size + 1 + 1), 0, none⟩ = some (.int .i64 T.x0) ∧ w'.cell? ⟨(W.heap.size + 1 + 1), 1, none⟩ = some (.int .i64 T.y0) ∧ w'.cell? ⟨(W.heap.size + 1 + 1), 2, none⟩ = some (.int .i64 T.x1) ∧ w'.cell? ⟨(W.heap.size + 1 + 1), 3, none⟩ = some (.int .i64 T.y1) ∧ w'.cell? ⟨(W.heap.size + 1 + 1 + 1), 0, none⟩ = some (.int .u8 p.c0) ∧ w'.cell? ⟨(W.heap.size + 1 + 1 + 1), 1, none⟩ = some (.int .u8 p.c1) ∧ w'.cell? ⟨(W.heap.size + 1 + 1 + 1), 2, none⟩ = some (.int .u8 p.c2) ∧ w'.cell? ⟨(W.heap.size + 1 + 1 + 1), 3, none⟩ = some (.int .u8 p.c3))) (by kernel_rfl) ?_ (fun hHeld => ?_)
        · exact ⟨HX.out.b.c0, HX.out.b.c1, HX.out.b.c2, HX.out.b.c3, HX.out.b.c4, HX.out.d.c0, HX.out.d.c1, HX.out.d.c2, HX.out.d.c3, HX.out.t.c0, HX.out.t.c1, HX.out.t.c2, HX.out.t.c3, HX.out.x.c0, HX.out.x.c1, HX.out.x.c2, HX.out.x.c3⟩
        generalize wc.drew = wd at HX hHeld ⊢
        refine wpAnyH_take (i := 0) (oi := { dst := some 47, op := Op.load 23 (Operand.tmp 8), type := 23, pos := "law.go:32", after := #[], guard := none }) (v := ?_) rfl (by kernel_rfl) (by kernel_rfl) (by kernel_rfl) (fun _ _ _ h => h) (Or.inl ⟨by rfl, ?hy⟩) (by assumption) ?_
        case hy => (intro w hSw; (try dsimp only at hSw); go_simp; first | done | with_reducible rfl)
        try simp only [Act.put, List.setIfInBounds_toArray, List.set_cons_zero, List.set_cons_succ]
        refine wpAnyH_ready (rs := [1]) (by kernel_rfl) (by simp) ?_
        refine AllReadyH.cons (o := { dst := some 48, op := Op.call { callee := Callee.value (Operand.func 15), args := #[Operand.tmp 47], argTypes := #[23] }, type := 4, pos := "law.go:32", after := #[{ on := 0, ground := Ground.data }], guard := none }) rfl (fun K hK => ?_) AllReadyH.nil
        go_simp
        (go_at_call 15; with_reducible refine Calls.mono (Rc.refEmpty_any T.x0 T.y0 T.x1 T.y1 _) ?_; rintro e wc ⟨rfl, hb⟩; rw [HTE.out]; replace HX := hid (HX.out.below hb); clear hb)
        go_wp2_with fail
        refine hK.out _ _ ?_ (fun hHeld => ?_)
        · exact ⟨HX.out.b.c0, HX.out.b.c1, HX.out.b.c2, HX.out.b.c3, HX.out.b.c4, HX.out.d.c0, HX.out.d.c1, HX.out.d.c2, HX.out.d.c3, HX.out.t.c0, HX.out.t.c1, HX.out.t.c2, HX.out.t.c3, HX.out.x.c0, HX.out.x.c1, HX.out.x.c2, HX.out.x.c3⟩
        clear hK K
        try simp only [Act.put, List.setIfInBounds_toArray, List.set_cons_zero, List.set_cons_succ]
        refine wpAnyH_take (i := 2) (oi := { dst := some 49, op := Op.move (Operand.tmp 48), type := 4, pos := "law.go:32", after := #[{ on := 1, ground := Ground.data }, { on := 1, ground := Ground.chain }], guard := none }) (v := ?_) rfl (by kernel_rfl) (by kernel_rfl) (by kernel_rfl) (fun _ _ _ h => h) (Or.inl ⟨by rfl, ?hy⟩) (by assumption) ?_
        case hy => (intro w hSw; (try dsimp only at hSw); go_simp; first | done | with_reducible rfl)
        try simp only [Act.put, List.setIfInBounds_toArray, List.set_cons_zero, List.set_cons_succ]
        refine wpAnyH_take (i := 3) (oi := { dst := some 50, op := Op.load 23 (Operand.tmp 8), type := 23, pos := "law.go:32", after := #[{ on := 2, ground := Ground.guard }], guard := some (2, false) }) (v := ?_) rfl (by kernel_rfl) (by kernel_rfl) (by kernel_rfl) (fun _ _ _ h => h) (Or.inl ⟨by rfl, ?hy⟩) (by assumption) ?_
        case hy => (intro w hSw; (try dsimp only at hSw); go_simp; first | done | with_reducible rfl)
        try simp only [Act.put, List.setIfInBounds_toArray, List.set_cons_zero, List.set_cons_succ]
        refine wpAnyH_ready (rs := [4]) (by kernel_rfl) (by simp) ?_
        refine AllReadyH.cons (o := { dst := some 51, op := Op.call { callee := Callee.value (Operand.func 16), args := #[Operand.tmp 50], argTypes := #[23] }, type := 4, pos := "law.go:32", after := #[{ on := 3, ground := Ground.data }, { on := 2, ground := Ground.chain }, { on := 2, ground := Ground.guard }], guard := some (2, false) }) rfl (fun K hK => ?_) AllReadyH.nil
        go_simp
        (go_at_call 16; with_reducible refine Calls.mono (halfB_any T.x0 T.y0 T.x1 T.y1 _) ?_; rintro e wc ⟨rfl, hb⟩; rw [HTH.out]; replace HX := hid (HX.out.below hb); clear hb)
        go_wp2_with fail
        refine hK.out _ _ ?_ (fun hHeld => ?_)
        · exact ⟨HX.out.b.c0, HX.out.b.c1, HX.out.b.c2, HX.out.b.c3, HX.out.b.c4, HX.out.d.c0, HX.out.d.c1, HX.out.d.c2, HX.out.d.c3, HX.out.t.c0, HX.out.t.c1, HX.out.t.c2, HX.out.t.c3, HX.out.x.c0, HX.out.x.c1, HX.out.x.c2, HX.out.x.c3⟩
        clear hK K
        try simp only [Act.put, List.setIfInBounds_toArray, List.set_cons_zero, List.set_cons_succ]
        refine wpAnyH_take (i := 5) (oi := { dst := some 52, op := Op.unOp UnOp.not 4 (Operand.tmp 51), type := 4, pos := "law.go:32", after := #[{ on := 4, ground := Ground.data }, { on := 2, ground := Ground.guard }], guard := some (2, false) }) (v := ?_) rfl (by kernel_rfl) (by kernel_rfl) (by kernel_rfl) (fun _ _ _ h => h) (Or.inl ⟨by rfl, ?hy⟩) (by assumption) ?_
        case hy => (intro w hSw; (try dsimp only at hSw); go_simp; first | done | with_reducible rfl)
        try simp only [Act.put, List.setIfInBounds_toArray, List.set_cons_zero, List.set_cons_succ]
        refine wpAnyH_take (i := 6) (oi := { dst := some 53, op := Op.pick (Operand.tmp 49) (Operand.const (Value.bool true)) (Operand.tmp 52), type := 4, pos := "law.go:32", after := #[{ on := 2, ground := Ground.data }, { on := 5, ground := Ground.data }], guard := none }) (v := ?_) rfl (by kernel_rfl) (by kernel_rfl) (by kernel_rfl) (fun _ _ _ h => h) (Or.inl ⟨by rfl, ?hy⟩) (by assumption) ?_
        case hy => (intro w hSw; (try dsimp only at hSw); go_simp; first | done | with_reducible rfl)
        try simp only [Act.put, List.setIfInBounds_toArray, List.set_cons_zero, List.set_cons_succ]
        refine wpAnyH_take (i := 7) (oi := { dst := some 54, op := Op.move (Operand.tmp 53), type := 4, pos := "law.go:32", after := #[{ on := 6, ground := Ground.data }, { on := 4, ground := Ground.chain }], guard := none }) (v := ?_) rfl (by kernel_rfl) (by kernel_rfl) (by kernel_rfl) (fun _ _ _ h => h) (Or.inl ⟨by rfl, ?hy⟩) (by assumption) ?_
        case hy => (intro w hSw; (try dsimp only at hSw); go_simp; first | done | with_reducible rfl)
        try simp only [Act.put, List.setIfInBounds_toArray, List.set_cons_zero, List.set_cons_succ]
        refine wpAnyH_take (i := 8) (oi := { dst := some 55, op := Op.load 26 (Operand.tmp 6), type := 26, pos := "law.go:32", after := #[{ on := 7, ground := Ground.guard }], guard := some (7, false) }) (v := undef) rfl (by kernel_rfl) (by kernel_rfl) (by kernel_rfl) (fun _ _ _ h => h) (Or.inr ⟨by rfl, rfl⟩) (by assumption) ?_
        try simp only [Act.put, List.setIfInBounds_toArray, List.set_cons_zero, List.set_cons_succ]
        refine wpAnyH_take (i := 9) (oi := { dst := some 56, op := Op.load 23 (Operand.tmp 7), type := 23, pos := "law.go:32", after := #[{ on := 7, ground := Ground.guard }], guard := some (7, false) }) (v := undef) rfl (by kernel_rfl) (by kernel_rfl) (by kernel_rfl) (fun _ _ _ h => h) (Or.inr ⟨by rfl, rfl⟩) (by assumption) ?_
        try simp only [Act.put, List.setIfInBounds_toArray, List.set_cons_zero, List.set_cons_succ]
        refine wpAnyH_take (i := 10) (oi := { dst := some 57, op := Op.load 23 (Operand.tmp 8), type := 23, pos := "law.go:32", after := #[{ on := 7, ground := Ground.guard }], guard := some (7, false) }) (v := undef) rfl (by kernel_rfl) (by kernel_rfl) (by kernel_rfl) (fun _ _ _ h => h) (Or.inr ⟨by rfl, rfl⟩) (by assumption) ?_
        try simp only [Act.put, List.setIfInBounds_toArray, List.set_cons_zero, List.set_cons_succ]
        refine wpAnyH_take (i := 11) (oi := { dst := some 58, op := Op.call { callee := Callee.value (Operand.func 18), args := #[Operand.tmp 55, Operand.tmp 56, Operand.tmp 57], argTypes := #[26, 23, 23] }, type := 26, pos := "law.go:32", after := #[{ on := 8, ground := Ground.data }, { on := 9, ground := Ground.data }, { on := 10, ground := Ground.data }, { on := 7, ground := Ground.chain }, { on := 7, ground := Ground.guard }], guard := some (7, false) }) (v := undef) rfl (by kernel_rfl) (by kernel_rfl) (by kernel_rfl) (fun _ _ _ h => h) (Or.inr ⟨by rfl, rfl⟩) (by assumption) ?_
        try simp only [Act.put, List.setIfInBounds_toArray, List.set_cons_zero, List.set_cons_succ]
        refine wpAnyH_take (i := 12) (oi := { dst := some 59, op := Op.load 26 (Operand.tmp 6), type := 26, pos := "law.go:32", after := #[{ on := 7, ground := Ground.guard }], guard := some (7, false) }) (v := undef) rfl (by kernel_rfl) (by kernel_rfl) (by kernel_rfl) (fun _ _ _ h => h) (Or.inr ⟨by rfl, rfl⟩) (by assumption) ?_
        try simp only [Act.put, List.setIfInBounds_toArray, List.set_cons_zero, List.set_cons_succ]
        refine wpAnyH_take (i := 13) (oi := { dst := some 60, op := Op.load 23 (Operand.tmp 7), type := 23, pos := "law.go:32", after := #[{ on := 7, ground := Ground.guard }], guard := some (7, false) }) (v := undef) rfl (by kernel_rfl) (by kernel_rfl) (by kernel_rfl) (fun _ _ _ h => h) (Or.inr ⟨by rfl, rfl⟩) (by assumption) ?_
        try simp only [Act.put, List.setIfInBounds_toArray, List.set_cons_zero, List.set_cons_succ]
        refine wpAnyH_take (i := 14) (oi := { dst := some 61, op := Op.load 23 (Operand.tmp 8), type := 23, pos := "law.go:32", after := #[{ on := 7, ground := Ground.guard }], guard := some (7, false) }) (v := undef) rfl (by kernel_rfl) (by kernel_rfl) (by kernel_rfl) (fun _ _ _ h => h) (Or.inr ⟨by rfl, rfl⟩) (by assumption) ?_
        try simp only [Act.put, List.setIfInBounds_toArray, List.set_cons_zero, List.set_cons_succ]
        refine wpAnyH_take (i := 15) (oi := { dst := some 62, op := Op.call { callee := Callee.value (Operand.func 19), args := #[Operand.tmp 59, Operand.tmp 60, Operand.tmp 61], argTypes := #[26, 23, 23] }, type := 26, pos := "law.go:32", after := #[{ on := 12, ground := Ground.data }, { on := 13, ground := Ground.data }, { on := 14, ground := Ground.data }, { on := 11, ground := Ground.chain }, { on := 7, ground := Ground.guard }], guard := some (7, false) }) (v := undef) rfl (by kernel_rfl) (by kernel_rfl) (by kernel_rfl) (fun _ _ _ h => h) (Or.inr ⟨by rfl, rfl⟩) (by assumption) ?_
        try simp only [Act.put, List.setIfInBounds_toArray, List.set_cons_zero, List.set_cons_succ]
        refine wpAnyH_take (i := 16) (oi := { dst := some 63, op := Op.call { callee := Callee.value (Operand.func 17), args := #[Operand.tmp 58, Operand.tmp 62], argTypes := #[26, 26] }, type := 4, pos := "law.go:32", after := #[{ on := 11, ground := Ground.data }, { on := 15, ground := Ground.data }, { on := 15, ground := Ground.chain }, { on := 7, ground := Ground.guard }], guard := some (7, false) }) (v := undef) rfl (by kernel_rfl) (by kernel_rfl) (by kernel_rfl) (fun _ _ _ h => h) (Or.inr ⟨by rfl, rfl⟩) (by assumption) ?_
        try simp only [Act.put, List.setIfInBounds_toArray, List.set_cons_zero, List.set_cons_succ]
        refine wpAnyH_take (i := 17) (oi := { dst := some 64, op := Op.pick (Operand.tmp 54) (Operand.const (Value.bool true)) (Operand.tmp 63), type := 4, pos := "law.go:32", after := #[{ on := 7, ground := Ground.data }, { on := 16, ground := Ground.data }], guard := none }) (v := ?_) rfl (by kernel_rfl) (by kernel_rfl) (by kernel_rfl) (fun _ _ _ h => h) (Or.inl ⟨by rfl, ?hy⟩) (by assumption) ?_
        case hy => (intro w hSw; (try dsimp only at hSw); go_simp; first | done | with_reducible rfl)
        try simp only [Act.put, List.setIfInBounds_toArray, List.set_cons_zero, List.set_cons_succ]
        refine wpAnyH_take (i := 18) (oi := { dst := some 13, op := Op.assign (Operand.tmp 64), type := 4, pos := "law.go:32", after := #[{ on := 17, ground := Ground.data }, { on := 16, ground := Ground.chain }, { on := 0, ground := Ground.phase }, { on := 1, ground := Ground.phase }, { on := 2, ground := Ground.phase }, { on := 3, ground := Ground.phase }, { on := 4, ground := Ground.phase }, { on := 5, ground := Ground.phase }, { on := 6, ground := Ground.phase }, { on := 7, ground := Ground.phase }, { on := 8, ground := Ground.phase }, { on := 9, ground := Ground.phase }, { on := 10, ground := Ground.phase }, { on := 11, ground := Ground.phase }, { on := 12, ground := Ground.phase }, { on := 13, ground := Ground.phase }, { on := 14, ground := Ground.phase }, { on := 15, ground := Ground.phase }, { on := 16, ground := Ground.phase }, { on := 17, ground := Ground.phase }], guard := none }) (v := ?_) rfl (by kernel_rfl) (by kernel_rfl) (by kernel_rfl) (fun _ _ _ h => h) (Or.inl ⟨by rfl, ?hy⟩) (by assumption) ?_
        case hy => (intro w hSw; (try dsimp only at hSw); go_simp; first | done | with_reducible rfl)
        try simp only [Act.put, List.setIfInBounds_toArray, List.set_cons_zero, List.set_cons_succ]
        refine wpAnyH_done (by kernel_rfl) ?_ _
        go_wp2_with fail
        go_meet
        case rel => exact ⟨rfl, HX.out⟩
      · have HTH := hid hH
        have HTB : Hid ((-33554432 ≤ T.x0 ∧ -33554432 ≤ T.y0) ∧ (T.x1 ≤ 33554432 ∧ T.y1 ≤ 33554432)) := by
          have := of_decide_eq_true hH
          exact this.1
        clear hE hH
        refine wp_region_held_drew (S := (fun w' => w'.cell? ⟨W.heap.size, 0, none⟩ = some (.int .i64 B.x0) ∧ w'.cell? ⟨W.heap.size, 1, none⟩ = some (.int .i64 B.y0) ∧ w'.cell? ⟨W.heap.size, 2, none⟩ = some (.int .i64 B.x1) ∧ w'.cell? ⟨W.heap.size, 3, none⟩ = some (.int .i64 B.y1) ∧ w'.cell? ⟨W.heap.size, 4, none⟩ = some (.slice ao n m) ∧ w'.cell? ⟨(W.heap.size + 1), 0, none⟩ = some (.int .i64 D.x0) ∧ w'.cell? ⟨(W.heap.size + 1), 1, none⟩ = some (.int .i64 D.y0) ∧ w'.cell? ⟨(W.heap.size + 1), 2, none⟩ = some (.int .i64 D.x1) ∧ w'.cell? ⟨(W.heap.size + 1), 3, none⟩ = some (.int .i64 D.y1) ∧ w'.cell? ⟨(W.heap.size + 1 + 1), 0, none⟩ = some (.int .i64 T.x0) ∧ w'.cell? ⟨(W.heap.size + 1 + 1), 1, none⟩ = some (.int .i64 T.y0) ∧ w'.cell? ⟨(W.heap.size + 1 + 1), 2, none⟩ = some (.int .i64 T.x1) ∧ w'.cell? ⟨(W.heap.size + 1 + 1), 3, none⟩ = some (.int .i64 T.y1) ∧ w'.cell? ⟨(W.heap.size + 1 + 1 + 1), 0, none⟩ = some (.int .u8 p.c0) ∧ w'.cell? ⟨(W.heap.size + 1 + 1 + 1), 1, none⟩ = some (.int .u8 p.c1) ∧ w'.cell? ⟨(W.heap.size + 1 + 1 + 1), 2, none⟩ = some (.int .u8 p.c2) ∧ w'.cell? ⟨(W.heap.size + 1 + 1 + 1), 3, none⟩ = some (.int .u8 p.c3))) (by kernel_rfl) ?_ (fun hHeld => ?_)
        · exact ⟨HX.out.b.c0, HX.out.b.c1, HX.out.b.c2, HX.out.b.c3, HX.out.b.c4, HX.out.d.c0, HX.out.d.c1, HX.out.d.c2, HX.out.d.c3, HX.out.t.c0, HX.out.t.c1, HX.out.t.c2, HX.out.t.c3, HX.out.x.c0, HX.out.x.c1, HX.out.x.c2, HX.out.x.c3⟩
        generalize wc.drew = wd at HX hHeld ⊢
        refine wpAnyH_take (i := 0) (oi := { dst := some 47, op := Op.load 23 (Operand.tmp 8), type := 23, pos := "law.go:32", after := #[], guard := none }) (v := ?_) rfl (by kernel_rfl) (by kernel_rfl) (by kernel_rfl) (fun _ _ _ h => h) (Or.inl ⟨by rfl, ?hy⟩) (by assumption) ?_
        case hy => (intro w hSw; (try dsimp only at hSw); go_simp; first | done | with_reducible rfl)
        try simp only [Act.put, List.setIfInBounds_toArray, List.set_cons_zero, List.set_cons_succ]
        refine wpAnyH_ready (rs := [1]) (by kernel_rfl) (by simp) ?_
        refine AllReadyH.cons (o := { dst := some 48, op := Op.call { callee := Callee.value (Operand.func 15), args := #[Operand.tmp 47], argTypes := #[23] }, type := 4, pos := "law.go:32", after := #[{ on := 0, ground := Ground.data }], guard := none }) rfl (fun K hK => ?_) AllReadyH.nil
        go_simp
        (go_at_call 15; with_reducible refine Calls.mono (Rc.refEmpty_any T.x0 T.y0 T.x1 T.y1 _) ?_; rintro e wc ⟨rfl, hb⟩; rw [HTE.out]; replace HX := hid (HX.out.below hb); clear hb)
        go_wp2_with fail
        refine hK.out _ _ ?_ (fun hHeld => ?_)
        · exact ⟨HX.out.b.c0, HX.out.b.c1, HX.out.b.c2, HX.out.b.c3, HX.out.b.c4, HX.out.d.c0, HX.out.d.c1, HX.out.d.c2, HX.out.d.c3, HX.out.t.c0, HX.out.t.c1, HX.out.t.c2, HX.out.t.c3, HX.out.x.c0, HX.out.x.c1, HX.out.x.c2, HX.out.x.c3⟩
        clear hK K
        try simp only [Act.put, List.setIfInBounds_toArray, List.set_cons_zero, List.set_cons_succ]
        refine wpAnyH_take (i := 2) (oi := { dst := some 49, op := Op.move (Operand.tmp 48), type := 4, pos := "law.go:32", after := #[{ on := 1, ground := Ground.data }, { on := 1, ground := Ground.chain }], guard := none }) (v := ?_) rfl (by kernel_rfl) (by kernel_rfl) (by kernel_rfl) (fun _ _ _ h => h) (Or.inl ⟨by rfl, ?hy⟩) (by assumption) ?_
        case hy => (intro w hSw; (try dsimp only at hSw); go_simp; first | done | with_reducible rfl)
        try simp only [Act.put, List.setIfInBounds_toArray, List.set_cons_zero, List.set_cons_succ]
        refine wpAnyH_take (i := 3) (oi := { dst := some 50, op := Op.load 23 (Operand.tmp 8), type := 23, pos := "law.go:32", after := #[{ on := 2, ground := Ground.guard }], guard := some (2, false) }) (v := ?_) rfl (by kernel_rfl) (by kernel_rfl) (by kernel_rfl) (fun _ _ _ h => h) (Or.inl ⟨by rfl, ?hy⟩) (by assumption) ?_
        case hy => (intro w hSw; (try dsimp only at hSw); go_simp; first | done | with_reducible rfl)
        try simp only [Act.put, List.setIfInBounds_toArray, List.set_cons_zero, List.set_cons_succ]
        refine wpAnyH_ready (rs := [4]) (by kernel_rfl) (by simp) ?_
        refine AllReadyH.cons (o := { dst := some 51, op := Op.call { callee := Callee.value (Operand.func 16), args := #[Operand.tmp 50], argTypes := #[23] }, type := 4, pos := "law.go:32", after := #[{ on := 3, ground := Ground.data }, { on := 2, ground := Ground.chain }, { on := 2, ground := Ground.guard }], guard := some (2, false) }) rfl (fun K hK => ?_) AllReadyH.nil
        go_simp
        (go_at_call 16; with_reducible refine Calls.mono (halfB_any T.x0 T.y0 T.x1 T.y1 _) ?_; rintro e wc ⟨rfl, hb⟩; rw [HTH.out]; replace HX := hid (HX.out.below hb); clear hb)
        go_wp2_with fail
        refine hK.out _ _ ?_ (fun hHeld => ?_)
        · exact ⟨HX.out.b.c0, HX.out.b.c1, HX.out.b.c2, HX.out.b.c3, HX.out.b.c4, HX.out.d.c0, HX.out.d.c1, HX.out.d.c2, HX.out.d.c3, HX.out.t.c0, HX.out.t.c1, HX.out.t.c2, HX.out.t.c3, HX.out.x.c0, HX.out.x.c1, HX.out.x.c2, HX.out.x.c3⟩
        clear hK K
        try simp only [Act.put, List.setIfInBounds_toArray, List.set_cons_zero, List.set_cons_succ]
        refine wpAnyH_take (i := 5) (oi := { dst := some 52, op := Op.unOp UnOp.not 4 (Operand.tmp 51), type := 4, pos := "law.go:32", after := #[{ on := 4, ground := Ground.data }, { on := 2, ground := Ground.guard }], guard := some (2, false) }) (v := ?_) rfl (by kernel_rfl) (by kernel_rfl) (by kernel_rfl) (fun _ _ _ h => h) (Or.inl ⟨by rfl, ?hy⟩) (by assumption) ?_
        case hy => (intro w hSw; (try dsimp only at hSw); go_simp; first | done | with_reducible rfl)
        try simp only [Act.put, List.setIfInBounds_toArray, List.set_cons_zero, List.set_cons_succ]
        refine wpAnyH_take (i := 6) (oi := { dst := some 53, op := Op.pick (Operand.tmp 49) (Operand.const (Value.bool true)) (Operand.tmp 52), type := 4, pos := "law.go:32", after := #[{ on := 2, ground := Ground.data }, { on := 5, ground := Ground.data }], guard := none }) (v := ?_) rfl (by kernel_rfl) (by kernel_rfl) (by kernel_rfl) (fun _ _ _ h => h) (Or.inl ⟨by rfl, ?hy⟩) (by assumption) ?_
        case hy => (intro w hSw; (try dsimp only at hSw); go_simp; first | done | with_reducible rfl)
        try simp only [Act.put, List.setIfInBounds_toArray, List.set_cons_zero, List.set_cons_succ]
        refine wpAnyH_take (i := 7) (oi := { dst := some 54, op := Op.move (Operand.tmp 53), type := 4, pos := "law.go:32", after := #[{ on := 6, ground := Ground.data }, { on := 4, ground := Ground.chain }], guard := none }) (v := ?_) rfl (by kernel_rfl) (by kernel_rfl) (by kernel_rfl) (fun _ _ _ h => h) (Or.inl ⟨by rfl, ?hy⟩) (by assumption) ?_
        case hy => (intro w hSw; (try dsimp only at hSw); go_simp; first | done | with_reducible rfl)
        try simp only [Act.put, List.setIfInBounds_toArray, List.set_cons_zero, List.set_cons_succ]
        refine wpAnyH_take (i := 8) (oi := { dst := some 55, op := Op.load 26 (Operand.tmp 6), type := 26, pos := "law.go:32", after := #[{ on := 7, ground := Ground.guard }], guard := some (7, false) }) (v := ?_) rfl (by kernel_rfl) (by kernel_rfl) (by kernel_rfl) (fun _ _ _ h => h) (Or.inl ⟨by rfl, ?hy⟩) (by assumption) ?_
        case hy => (intro w hSw; (try dsimp only at hSw); go_simp; first | done | with_reducible rfl)
        try simp only [Act.put, List.setIfInBounds_toArray, List.set_cons_zero, List.set_cons_succ]
        refine wpAnyH_take (i := 9) (oi := { dst := some 56, op := Op.load 23 (Operand.tmp 7), type := 23, pos := "law.go:32", after := #[{ on := 7, ground := Ground.guard }], guard := some (7, false) }) (v := ?_) rfl (by kernel_rfl) (by kernel_rfl) (by kernel_rfl) (fun _ _ _ h => h) (Or.inl ⟨by rfl, ?hy⟩) (by assumption) ?_
        case hy => (intro w hSw; (try dsimp only at hSw); go_simp; first | done | with_reducible rfl)
        try simp only [Act.put, List.setIfInBounds_toArray, List.set_cons_zero, List.set_cons_succ]
        refine wpAnyH_take (i := 10) (oi := { dst := some 57, op := Op.load 23 (Operand.tmp 8), type := 23, pos := "law.go:32", after := #[{ on := 7, ground := Ground.guard }], guard := some (7, false) }) (v := ?_) rfl (by kernel_rfl) (by kernel_rfl) (by kernel_rfl) (fun _ _ _ h => h) (Or.inl ⟨by rfl, ?hy⟩) (by assumption) ?_
        case hy => (intro w hSw; (try dsimp only at hSw); go_simp; first | done | with_reducible rfl)
        try simp only [Act.put, List.setIfInBounds_toArray, List.set_cons_zero, List.set_cons_succ]
        refine wpAnyH_take (i := 12) (oi := { dst := some 59, op := Op.load 26 (Operand.tmp 6), type := 26, pos := "law.go:32", after := #[{ on := 7, ground := Ground.guard }], guard := some (7, false) }) (v := ?_) rfl (by kernel_rfl) (by kernel_rfl) (by kernel_rfl) (fun _ _ _ h => h) (Or.inl ⟨by rfl, ?hy⟩) (by assumption) ?_
        case hy => (intro w hSw; (try dsimp only at hSw); go_simp; first | done | with_reducible rfl)
        try simp only [Act.put, List.setIfInBounds_toArray, List.set_cons_zero, List.set_cons_succ]
        refine wpAnyH_take (i := 13) (oi := { dst := some 60, op := Op.load 23 (Operand.tmp 7), type := 23, pos := "law.go:32", after := #[{ on := 7, ground := Ground.guard }], guard := some (7, false) }) (v := ?_) rfl (by kernel_rfl) (by kernel_rfl) (by kernel_rfl) (fun _ _ _ h => h) (Or.inl ⟨by rfl, ?hy⟩) (by assumption) ?_
        case hy => (intro w hSw; (try dsimp only at hSw); go_simp; first | done | with_reducible rfl)
        try simp only [Act.put, List.setIfInBounds_toArray, List.set_cons_zero, List.set_cons_succ]
        refine wpAnyH_take (i := 14) (oi := { dst := some 61, op := Op.load 23 (Operand.tmp 8), type := 23, pos := "law.go:32", after := #[{ on := 7, ground := Ground.guard }], guard := some (7, false) }) (v := ?_) rfl (by kernel_rfl) (by kernel_rfl) (by kernel_rfl) (fun _ _ _ h => h) (Or.inl ⟨by rfl, ?hy⟩) (by assumption) ?_
        case hy => (intro w hSw; (try dsimp only at hSw); go_simp; first | done | with_reducible rfl)
        try simp only [Act.put, List.setIfInBounds_toArray, List.set_cons_zero, List.set_cons_succ]
        refine wpAnyH_ready (rs := [11]) (by kernel_rfl) (by simp) ?_
        refine AllReadyH.cons (o := { dst := some 58, op := Op.call { callee := Callee.value (Operand.func 18), args := #[Operand.tmp 55, Operand.tmp 56, Operand.tmp 57], argTypes := #[26, 23, 23] }, type := 26, pos := "law.go:32", after := #[{ on := 8, ground := Ground.data }, { on := 9, ground := Ground.data }, { on := 10, ground := Ground.data }, { on := 7, ground := Ground.chain }, { on := 7, ground := Ground.guard }], guard := some (7, false) }) rfl (fun K hK => ?_) AllReadyH.nil
        go_simp
        (go_at_call 18; with_reducible refine Calls.mono (tile_any B ao n m g off f D T _ HU.out.1 HU.out.2.1 (HV.out.below HX.out.low) HDH.out HU.out.2.2.2.2.2.1 HTB.out HTE.out) ?_; rintro e wc ⟨hr, hb⟩; obtain ⟨co, cn, cm, cg, coff, rfl, hO, hg1, hg2, hln⟩ := retG hr; have HSc := hid hO.v; have HLc := hid hln; replace HX := hid (HX.out.below hb); clear hr hO hg1 hg2 hln hb)
        go_wp2_with fail
        refine hK.out _ _ ?_ (fun hHeld => ?_)
        · exact ⟨HX.out.b.c0, HX.out.b.c1, HX.out.b.c2, HX.out.b.c3, HX.out.b.c4, HX.out.d.c0, HX.out.d.c1, HX.out.d.c2, HX.out.d.c3, HX.out.t.c0, HX.out.t.c1, HX.out.t.c2, HX.out.t.c3, HX.out.x.c0, HX.out.x.c1, HX.out.x.c2, HX.out.x.c3⟩
        clear hK K
        try simp only [Act.put, List.setIfInBounds_toArray, List.set_cons_zero, List.set_cons_succ]
        refine wpAnyH_ready (rs := [15]) (by kernel_rfl) (by simp) ?_
        refine AllReadyH.cons (o := { dst := some 62, op := Op.call { callee := Callee.value (Operand.func 19), args := #[Operand.tmp 59, Operand.tmp 60, Operand.tmp 61], argTypes := #[26, 23, 23] }, type := 26, pos := "law.go:32", after := #[{ on := 12, ground := Ground.data }, { on := 13, ground := Ground.data }, { on := 14, ground := Ground.data }, { on := 11, ground := Ground.chain }, { on := 7, ground := Ground.guard }], guard := some (7, false) }) rfl (fun K hK => ?_) AllReadyH.nil
        go_simp
        (go_at_call 19; with_reducible refine Calls.mono (refTile_any B ao n m g off f D T _ HU.out.2.2.1 HU.out.1 (HV.out.below HX.out.low) HU.out.2.2.2.2.1 HU.out.2.2.2.2.2.1 HDB.out HTB.out HTE.out) ?_; rintro e wc ⟨hr, hb⟩; obtain ⟨eo, en, em', eg, eoff, rfl, hO, hg1, hg2, hln⟩ := retG hr; have hnn := HLc.out.symm.trans hln; subst hnn; have HSe := hid hO.v; replace HSc := hid (HSc.out.below hb); replace HX := hid (HX.out.below hb); clear hr hO hg1 hg2 hln hb)
        go_wp2_with fail
        refine hK.out _ _ ?_ (fun hHeld => ?_)
        · exact ⟨HX.out.b.c0, HX.out.b.c1, HX.out.b.c2, HX.out.b.c3, HX.out.b.c4, HX.out.d.c0, HX.out.d.c1, HX.out.d.c2, HX.out.d.c3, HX.out.t.c0, HX.out.t.c1, HX.out.t.c2, HX.out.t.c3, HX.out.x.c0, HX.out.x.c1, HX.out.x.c2, HX.out.x.c3⟩
        clear hK K
        try simp only [Act.put, List.setIfInBounds_toArray, List.set_cons_zero, List.set_cons_succ]
        refine wpAnyH_ready (rs := [16]) (by kernel_rfl) (by simp) ?_
        refine AllReadyH.cons (o := { dst := some 63, op := Op.call { callee := Callee.value (Operand.func 17), args := #[Operand.tmp 58, Operand.tmp 62], argTypes := #[26, 26] }, type := 4, pos := "law.go:32", after := #[{ on := 11, ground := Ground.data }, { on := 15, ground := Ground.data }, { on := 15, ground := Ground.chain }, { on := 7, ground := Ground.guard }], guard := some (7, false) }) rfl (fun K hK => ?_) AllReadyH.nil
        go_simp
        (go_at_call 17; with_reducible refine Calls.mono (same_yes (orN D) co cn cm cg coff eo em' eg eoff _ _ HSc.out HSe.out) ?_; rintro e wc ⟨rfl, hb⟩; replace HX := hid (HX.out.below hb); clear hb)
        go_wp2_with fail
        refine hK.out _ _ ?_ (fun hHeld => ?_)
        · exact ⟨HX.out.b.c0, HX.out.b.c1, HX.out.b.c2, HX.out.b.c3, HX.out.b.c4, HX.out.d.c0, HX.out.d.c1, HX.out.d.c2, HX.out.d.c3, HX.out.t.c0, HX.out.t.c1, HX.out.t.c2, HX.out.t.c3, HX.out.x.c0, HX.out.x.c1, HX.out.x.c2, HX.out.x.c3⟩
        clear hK K
        try simp only [Act.put, List.setIfInBounds_toArray, List.set_cons_zero, List.set_cons_succ]
        refine wpAnyH_take (i := 17) (oi := { dst := some 64, op := Op.pick (Operand.tmp 54) (Operand.const (Value.bool true)) (Operand.tmp 63), type := 4, pos := "law.go:32", after := #[{ on := 7, ground := Ground.data }, { on := 16, ground := Ground.data }], guard := none }) (v := ?_) rfl (by kernel_rfl) (by kernel_rfl) (by kernel_rfl) (fun _ _ _ h => h) (Or.inl ⟨by rfl, ?hy⟩) (by assumption) ?_
        case hy => (intro w hSw; (try dsimp only at hSw); go_simp; first | done | with_reducible rfl)
        try simp only [Act.put, List.setIfInBounds_toArray, List.set_cons_zero, List.set_cons_succ]
        refine wpAnyH_take (i := 18) (oi := { dst := some 13, op := Op.assign (Operand.tmp 64), type := 4, pos := "law.go:32", after := #[{ on := 17, ground := Ground.data }, { on := 16, ground := Ground.chain }, { on := 0, ground := Ground.phase }, { on := 1, ground := Ground.phase }, { on := 2, ground := Ground.phase }, { on := 3, ground := Ground.phase }, { on := 4, ground := Ground.phase }, { on := 5, ground := Ground.phase }, { on := 6, ground := Ground.phase }, { on := 7, ground := Ground.phase }, { on := 8, ground := Ground.phase }, { on := 9, ground := Ground.phase }, { on := 10, ground := Ground.phase }, { on := 11, ground := Ground.phase }, { on := 12, ground := Ground.phase }, { on := 13, ground := Ground.phase }, { on := 14, ground := Ground.phase }, { on := 15, ground := Ground.phase }, { on := 16, ground := Ground.phase }, { on := 17, ground := Ground.phase }], guard := none }) (v := ?_) rfl (by kernel_rfl) (by kernel_rfl) (by kernel_rfl) (fun _ _ _ h => h) (Or.inl ⟨by rfl, ?hy⟩) (by assumption) ?_
        case hy => (intro w hSw; (try dsimp only at hSw); go_simp; first | done | with_reducible rfl)
        try simp only [Act.put, List.setIfInBounds_toArray, List.set_cons_zero, List.set_cons_succ]
        refine wpAnyH_done (by kernel_rfl) ?_ _
        go_wp2_with fail
        go_meet
        case rel => exact ⟨rfl, HX.out⟩
    · have HTE := hid hE
      clear hE
      refine wp_region_held_drew (S := (fun w' => w'.cell? ⟨W.heap.size, 0, none⟩ = some (.int .i64 B.x0) ∧ w'.cell? ⟨W.heap.size, 1, none⟩ = some (.int .i64 B.y0) ∧ w'.cell? ⟨W.heap.size, 2, none⟩ = some (.int .i64 B.x1) ∧ w'.cell? ⟨W.heap.size, 3, none⟩ = some (.int .i64 B.y1) ∧ w'.cell? ⟨W.heap.size, 4, none⟩ = some (.slice ao n m) ∧ w'.cell? ⟨(W.heap.size + 1), 0, none⟩ = some (.int .i64 D.x0) ∧ w'.cell? ⟨(W.heap.size + 1), 1, none⟩ = some (.int .i64 D.y0) ∧ w'.cell? ⟨(W.heap.size + 1), 2, none⟩ = some (.int .i64 D.x1) ∧ w'.cell? ⟨(W.heap.size + 1), 3, none⟩ = some (.int .i64 D.y1) ∧ w'.cell? ⟨(W.heap.size + 1 + 1), 0, none⟩ = some (.int .i64 T.x0) ∧ w'.cell? ⟨(W.heap.size + 1 + 1), 1, none⟩ = some (.int .i64 T.y0) ∧ w'.cell? ⟨(W.heap.size + 1 + 1), 2, none⟩ = some (.int .i64 T.x1) ∧ w'.cell? ⟨(W.heap.size + 1 + 1), 3, none⟩ = some (.int .i64 T.y1) ∧ w'.cell? ⟨(W.heap.size + 1 + 1 + 1), 0, none⟩ = some (.int .u8 p.c0) ∧ w'.cell? ⟨(W.heap.size + 1 + 1 + 1), 1, none⟩ = some (.int .u8 p.c1) ∧ w'.cell? ⟨(W.heap.size + 1 + 1 + 1), 2, none⟩ = some (.int .u8 p.c2) ∧ w'.cell? ⟨(W.heap.size + 1 + 1 + 1), 3, none⟩ = some (.int .u8 p.c3))) (by kernel_rfl) ?_ (fun hHeld => ?_)
      · exact ⟨HX.out.b.c0, HX.out.b.c1, HX.out.b.c2, HX.out.b.c3, HX.out.b.c4, HX.out.d.c0, HX.out.d.c1, HX.out.d.c2, HX.out.d.c3, HX.out.t.c0, HX.out.t.c1, HX.out.t.c2, HX.out.t.c3, HX.out.x.c0, HX.out.x.c1, HX.out.x.c2, HX.out.x.c3⟩
      generalize wc.drew = wd at HX hHeld ⊢
      refine wpAnyH_take (i := 0) (oi := { dst := some 47, op := Op.load 23 (Operand.tmp 8), type := 23, pos := "law.go:32", after := #[], guard := none }) (v := ?_) rfl (by kernel_rfl) (by kernel_rfl) (by kernel_rfl) (fun _ _ _ h => h) (Or.inl ⟨by rfl, ?hy⟩) (by assumption) ?_
      case hy => (intro w hSw; (try dsimp only at hSw); go_simp; first | done | with_reducible rfl)
      try simp only [Act.put, List.setIfInBounds_toArray, List.set_cons_zero, List.set_cons_succ]
      refine wpAnyH_ready (rs := [1]) (by kernel_rfl) (by simp) ?_
      refine AllReadyH.cons (o := { dst := some 48, op := Op.call { callee := Callee.value (Operand.func 15), args := #[Operand.tmp 47], argTypes := #[23] }, type := 4, pos := "law.go:32", after := #[{ on := 0, ground := Ground.data }], guard := none }) rfl (fun K hK => ?_) AllReadyH.nil
      go_simp
      (go_at_call 15; with_reducible refine Calls.mono (Rc.refEmpty_any T.x0 T.y0 T.x1 T.y1 _) ?_; rintro e wc ⟨rfl, hb⟩; rw [HTE.out]; replace HX := hid (HX.out.below hb); clear hb)
      go_wp2_with fail
      refine hK.out _ _ ?_ (fun hHeld => ?_)
      · exact ⟨HX.out.b.c0, HX.out.b.c1, HX.out.b.c2, HX.out.b.c3, HX.out.b.c4, HX.out.d.c0, HX.out.d.c1, HX.out.d.c2, HX.out.d.c3, HX.out.t.c0, HX.out.t.c1, HX.out.t.c2, HX.out.t.c3, HX.out.x.c0, HX.out.x.c1, HX.out.x.c2, HX.out.x.c3⟩
      clear hK K
      try simp only [Act.put, List.setIfInBounds_toArray, List.set_cons_zero, List.set_cons_succ]
      refine wpAnyH_take (i := 2) (oi := { dst := some 49, op := Op.move (Operand.tmp 48), type := 4, pos := "law.go:32", after := #[{ on := 1, ground := Ground.data }, { on := 1, ground := Ground.chain }], guard := none }) (v := ?_) rfl (by kernel_rfl) (by kernel_rfl) (by kernel_rfl) (fun _ _ _ h => h) (Or.inl ⟨by rfl, ?hy⟩) (by assumption) ?_
      case hy => (intro w hSw; (try dsimp only at hSw); go_simp; first | done | with_reducible rfl)
      try simp only [Act.put, List.setIfInBounds_toArray, List.set_cons_zero, List.set_cons_succ]
      refine wpAnyH_take (i := 3) (oi := { dst := some 50, op := Op.load 23 (Operand.tmp 8), type := 23, pos := "law.go:32", after := #[{ on := 2, ground := Ground.guard }], guard := some (2, false) }) (v := undef) rfl (by kernel_rfl) (by kernel_rfl) (by kernel_rfl) (fun _ _ _ h => h) (Or.inr ⟨by rfl, rfl⟩) (by assumption) ?_
      try simp only [Act.put, List.setIfInBounds_toArray, List.set_cons_zero, List.set_cons_succ]
      refine wpAnyH_take (i := 4) (oi := { dst := some 51, op := Op.call { callee := Callee.value (Operand.func 16), args := #[Operand.tmp 50], argTypes := #[23] }, type := 4, pos := "law.go:32", after := #[{ on := 3, ground := Ground.data }, { on := 2, ground := Ground.chain }, { on := 2, ground := Ground.guard }], guard := some (2, false) }) (v := undef) rfl (by kernel_rfl) (by kernel_rfl) (by kernel_rfl) (fun _ _ _ h => h) (Or.inr ⟨by rfl, rfl⟩) (by assumption) ?_
      try simp only [Act.put, List.setIfInBounds_toArray, List.set_cons_zero, List.set_cons_succ]
      refine wpAnyH_take (i := 5) (oi := { dst := some 52, op := Op.unOp UnOp.not 4 (Operand.tmp 51), type := 4, pos := "law.go:32", after := #[{ on := 4, ground := Ground.data }, { on := 2, ground := Ground.guard }], guard := some (2, false) }) (v := undef) rfl (by kernel_rfl) (by kernel_rfl) (by kernel_rfl) (fun _ _ _ h => h) (Or.inr ⟨by rfl, rfl⟩) (by assumption) ?_
      try simp only [Act.put, List.setIfInBounds_toArray, List.set_cons_zero, List.set_cons_succ]
      refine wpAnyH_take (i := 6) (oi := { dst := some 53, op := Op.pick (Operand.tmp 49) (Operand.const (Value.bool true)) (Operand.tmp 52), type := 4, pos := "law.go:32", after := #[{ on := 2, ground := Ground.data }, { on := 5, ground := Ground.data }], guard := none }) (v := ?_) rfl (by kernel_rfl) (by kernel_rfl) (by kernel_rfl) (fun _ _ _ h => h) (Or.inl ⟨by rfl, ?hy⟩) (by assumption) ?_
      case hy => (intro w hSw; (try dsimp only at hSw); go_simp; first | done | with_reducible rfl)
      try simp only [Act.put, List.setIfInBounds_toArray, List.set_cons_zero, List.set_cons_succ]
      refine wpAnyH_take (i := 7) (oi := { dst := some 54, op := Op.move (Operand.tmp 53), type := 4, pos := "law.go:32", after := #[{ on := 6, ground := Ground.data }, { on := 4, ground := Ground.chain }], guard := none }) (v := ?_) rfl (by kernel_rfl) (by kernel_rfl) (by kernel_rfl) (fun _ _ _ h => h) (Or.inl ⟨by rfl, ?hy⟩) (by assumption) ?_
      case hy => (intro w hSw; (try dsimp only at hSw); go_simp; first | done | with_reducible rfl)
      try simp only [Act.put, List.setIfInBounds_toArray, List.set_cons_zero, List.set_cons_succ]
      refine wpAnyH_take (i := 8) (oi := { dst := some 55, op := Op.load 26 (Operand.tmp 6), type := 26, pos := "law.go:32", after := #[{ on := 7, ground := Ground.guard }], guard := some (7, false) }) (v := undef) rfl (by kernel_rfl) (by kernel_rfl) (by kernel_rfl) (fun _ _ _ h => h) (Or.inr ⟨by rfl, rfl⟩) (by assumption) ?_
      try simp only [Act.put, List.setIfInBounds_toArray, List.set_cons_zero, List.set_cons_succ]
      refine wpAnyH_take (i := 9) (oi := { dst := some 56, op := Op.load 23 (Operand.tmp 7), type := 23, pos := "law.go:32", after := #[{ on := 7, ground := Ground.guard }], guard := some (7, false) }) (v := undef) rfl (by kernel_rfl) (by kernel_rfl) (by kernel_rfl) (fun _ _ _ h => h) (Or.inr ⟨by rfl, rfl⟩) (by assumption) ?_
      try simp only [Act.put, List.setIfInBounds_toArray, List.set_cons_zero, List.set_cons_succ]
      refine wpAnyH_take (i := 10) (oi := { dst := some 57, op := Op.load 23 (Operand.tmp 8), type := 23, pos := "law.go:32", after := #[{ on := 7, ground := Ground.guard }], guard := some (7, false) }) (v := undef) rfl (by kernel_rfl) (by kernel_rfl) (by kernel_rfl) (fun _ _ _ h => h) (Or.inr ⟨by rfl, rfl⟩) (by assumption) ?_
      try simp only [Act.put, List.setIfInBounds_toArray, List.set_cons_zero, List.set_cons_succ]
      refine wpAnyH_take (i := 11) (oi := { dst := some 58, op := Op.call { callee := Callee.value (Operand.func 18), args := #[Operand.tmp 55, Operand.tmp 56, Operand.tmp 57], argTypes := #[26, 23, 23] }, type := 26, pos := "law.go:32", after := #[{ on := 8, ground := Ground.data }, { on := 9, ground := Ground.data }, { on := 10, ground := Ground.data }, { on := 7, ground := Ground.chain }, { on := 7, ground := Ground.guard }], guard := some (7, false) }) (v := undef) rfl (by kernel_rfl) (by kernel_rfl) (by kernel_rfl) (fun _ _ _ h => h) (Or.inr ⟨by rfl, rfl⟩) (by assumption) ?_
      try simp only [Act.put, List.setIfInBounds_toArray, List.set_cons_zero, List.set_cons_succ]
      refine wpAnyH_take (i := 12) (oi := { dst := some 59, op := Op.load 26 (Operand.tmp 6), type := 26, pos := "law.go:32", after := #[{ on := 7, ground := Ground.guard }], guard := some (7, false) }) (v := undef) rfl (by kernel_rfl) (by kernel_rfl) (by kernel_rfl) (fun _ _ _ h => h) (Or.inr ⟨by rfl, rfl⟩) (by assumption) ?_
      try simp only [Act.put, List.setIfInBounds_toArray, List.set_cons_zero, List.set_cons_succ]
      refine wpAnyH_take (i := 13) (oi := { dst := some 60, op := Op.load 23 (Operand.tmp 7), type := 23, pos := "law.go:32", after := #[{ on := 7, ground := Ground.guard }], guard := some (7, false) }) (v := undef) rfl (by kernel_rfl) (by kernel_rfl) (by kernel_rfl) (fun _ _ _ h => h) (Or.inr ⟨by rfl, rfl⟩) (by assumption) ?_
      try simp only [Act.put, List.setIfInBounds_toArray, List.set_cons_zero, List.set_cons_succ]
      refine wpAnyH_take (i := 14) (oi := { dst := some 61, op := Op.load 23 (Operand.tmp 8), type := 23, pos := "law.go:32", after := #[{ on := 7, ground := Ground.guard }], guard := some (7, false) }) (v := undef) rfl (by kernel_rfl) (by kernel_rfl) (by kernel_rfl) (fun _ _ _ h => h) (Or.inr ⟨by rfl, rfl⟩) (by assumption) ?_
      try simp only [Act.put, List.setIfInBounds_toArray, List.set_cons_zero, List.set_cons_succ]
      refine wpAnyH_take (i := 15) (oi := { dst := some 62, op := Op.call { callee := Callee.value (Operand.func 19), args := #[Operand.tmp 59, Operand.tmp 60, Operand.tmp 61], argTypes := #[26, 23, 23] }, type := 26, pos := "law.go:32", after := #[{ on := 12, ground := Ground.data }, { on := 13, ground := Ground.data }, { on := 14, ground := Ground.data }, { on := 11, ground := Ground.chain }, { on := 7, ground := Ground.guard }], guard := some (7, false) }) (v := undef) rfl (by kernel_rfl) (by kernel_rfl) (by kernel_rfl) (fun _ _ _ h => h) (Or.inr ⟨by rfl, rfl⟩) (by assumption) ?_
      try simp only [Act.put, List.setIfInBounds_toArray, List.set_cons_zero, List.set_cons_succ]
      refine wpAnyH_take (i := 16) (oi := { dst := some 63, op := Op.call { callee := Callee.value (Operand.func 17), args := #[Operand.tmp 58, Operand.tmp 62], argTypes := #[26, 26] }, type := 4, pos := "law.go:32", after := #[{ on := 11, ground := Ground.data }, { on := 15, ground := Ground.data }, { on := 15, ground := Ground.chain }, { on := 7, ground := Ground.guard }], guard := some (7, false) }) (v := undef) rfl (by kernel_rfl) (by kernel_rfl) (by kernel_rfl) (fun _ _ _ h => h) (Or.inr ⟨by rfl, rfl⟩) (by assumption) ?_
      try simp only [Act.put, List.setIfInBounds_toArray, List.set_cons_zero, List.set_cons_succ]
      refine wpAnyH_take (i := 17) (oi := { dst := some 64, op := Op.pick (Operand.tmp 54) (Operand.const (Value.bool true)) (Operand.tmp 63), type := 4, pos := "law.go:32", after := #[{ on := 7, ground := Ground.data }, { on := 16, ground := Ground.data }], guard := none }) (v := ?_) rfl (by kernel_rfl) (by kernel_rfl) (by kernel_rfl) (fun _ _ _ h => h) (Or.inl ⟨by rfl, ?hy⟩) (by assumption) ?_
      case hy => (intro w hSw; (try dsimp only at hSw); go_simp; first | done | with_reducible rfl)
      try simp only [Act.put, List.setIfInBounds_toArray, List.set_cons_zero, List.set_cons_succ]
      refine wpAnyH_take (i := 18) (oi := { dst := some 13, op := Op.assign (Operand.tmp 64), type := 4, pos := "law.go:32", after := #[{ on := 17, ground := Ground.data }, { on := 16, ground := Ground.chain }, { on := 0, ground := Ground.phase }, { on := 1, ground := Ground.phase }, { on := 2, ground := Ground.phase }, { on := 3, ground := Ground.phase }, { on := 4, ground := Ground.phase }, { on := 5, ground := Ground.phase }, { on := 6, ground := Ground.phase }, { on := 7, ground := Ground.phase }, { on := 8, ground := Ground.phase }, { on := 9, ground := Ground.phase }, { on := 10, ground := Ground.phase }, { on := 11, ground := Ground.phase }, { on := 12, ground := Ground.phase }, { on := 13, ground := Ground.phase }, { on := 14, ground := Ground.phase }, { on := 15, ground := Ground.phase }, { on := 16, ground := Ground.phase }, { on := 17, ground := Ground.phase }], guard := none }) (v := ?_) rfl (by kernel_rfl) (by kernel_rfl) (by kernel_rfl) (fun _ _ _ h => h) (Or.inl ⟨by rfl, ?hy⟩) (by assumption) ?_
      case hy => (intro w hSw; (try dsimp only at hSw); go_simp; first | done | with_reducible rfl)
      try simp only [Act.put, List.setIfInBounds_toArray, List.set_cons_zero, List.set_cons_succ]
      refine wpAnyH_done (by kernel_rfl) ?_ _
      go_wp2_with fail
      go_meet
      case rel => exact ⟨rfl, HX.out⟩
  case rest =>
    obtain ⟨rfl, hX⟩ := hcut
    obtain ⟨w9, rfl⟩ : ∃ w9, w9 = wc := ⟨_, rfl⟩
    have HX := hid (hX.below (Below.refl _ _).drew)
    clear hX
    go_wp2
    refine wp_region_held_drew (S := (fun w' => w'.cell? ⟨W.heap.size, 0, none⟩ = some (.int .i64 B.x0) ∧ w'.cell? ⟨W.heap.size, 1, none⟩ = some (.int .i64 B.y0) ∧ w'.cell? ⟨W.heap.size, 2, none⟩ = some (.int .i64 B.x1) ∧ w'.cell? ⟨W.heap.size, 3, none⟩ = some (.int .i64 B.y1) ∧ w'.cell? ⟨W.heap.size, 4, none⟩ = some (.slice ao n m) ∧ w'.cell? ⟨(W.heap.size + 1), 0, none⟩ = some (.int .i64 D.x0) ∧ w'.cell? ⟨(W.heap.size + 1), 1, none⟩ = some (.int .i64 D.y0) ∧ w'.cell? ⟨(W.heap.size + 1), 2, none⟩ = some (.int .i64 D.x1) ∧ w'.cell? ⟨(W.heap.size + 1), 3, none⟩ = some (.int .i64 D.y1) ∧ w'.cell? ⟨(W.heap.size + 1 + 1), 0, none⟩ = some (.int .i64 T.x0) ∧ w'.cell? ⟨(W.heap.size + 1 + 1), 1, none⟩ = some (.int .i64 T.y0) ∧ w'.cell? ⟨(W.heap.size + 1 + 1), 2, none⟩ = some (.int .i64 T.x1) ∧ w'.cell? ⟨(W.heap.size + 1 + 1), 3, none⟩ = some (.int .i64 T.y1) ∧ w'.cell? ⟨(W.heap.size + 1 + 1 + 1), 0, none⟩ = some (.int .u8 p.c0) ∧ w'.cell? ⟨(W.heap.size + 1 + 1 + 1), 1, none⟩ = some (.int .u8 p.c1) ∧ w'.cell? ⟨(W.heap.size + 1 + 1 + 1), 2, none⟩ = some (.int .u8 p.c2) ∧ w'.cell? ⟨(W.heap.size + 1 + 1 + 1), 3, none⟩ = some (.int .u8 p.c3))) (by kernel_rfl) ?_ (fun hHeld => ?_)
    · exact ⟨HX.out.b.c0, HX.out.b.c1, HX.out.b.c2, HX.out.b.c3, HX.out.b.c4, HX.out.d.c0, HX.out.d.c1, HX.out.d.c2, HX.out.d.c3, HX.out.t.c0, HX.out.t.c1, HX.out.t.c2, HX.out.t.c3, HX.out.x.c0, HX.out.x.c1, HX.out.x.c2, HX.out.x.c3⟩
    generalize w9.drew = wd at HX hHeld ⊢
    refine wpAnyH_take (i := 0) (oi := { dst := some 65, op := Op.move (Operand.tmp 13), type := 4, pos := "law.go:33", after := #[], guard := none }) (v := ?_) rfl (by kernel_rfl) (by kernel_rfl) (by kernel_rfl) (fun _ _ _ h => h) (Or.inl ⟨by rfl, ?hy⟩) (by assumption) ?_
    case hy => (intro w hSw; (try dsimp only at hSw); go_simp; first | done | with_reducible rfl)
    try simp only [Act.put, List.setIfInBounds_toArray, List.set_cons_zero, List.set_cons_succ]
    refine wpAnyH_take (i := 1) (oi := { dst := some 66, op := Op.move (Operand.tmp 65), type := 4, pos := "law.go:33", after := #[{ on := 0, ground := Ground.data }], guard := none }) (v := ?_) rfl (by kernel_rfl) (by kernel_rfl) (by kernel_rfl) (fun _ _ _ h => h) (Or.inl ⟨by rfl, ?hy⟩) (by assumption) ?_
    case hy => (intro w hSw; (try dsimp only at hSw); go_simp; first | done | with_reducible rfl)
    try simp only [Act.put, List.setIfInBounds_toArray, List.set_cons_zero, List.set_cons_succ]
    refine wpAnyH_take (i := 2) (oi := { dst := some 67, op := Op.load 26 (Operand.tmp 6), type := 26, pos := "law.go:33", after := #[{ on := 1, ground := Ground.guard }], guard := some (1, true) }) (v := ?_) rfl (by kernel_rfl) (by kernel_rfl) (by kernel_rfl) (fun _ _ _ h => h) (Or.inl ⟨by rfl, ?hy⟩) (by assumption) ?_
    case hy => (intro w hSw; (try dsimp only at hSw); go_simp; first | done | with_reducible rfl)
    try simp only [Act.put, List.setIfInBounds_toArray, List.set_cons_zero, List.set_cons_succ]
    refine wpAnyH_take (i := 3) (oi := { dst := some 68, op := Op.load 23 (Operand.tmp 7), type := 23, pos := "law.go:33", after := #[{ on := 1, ground := Ground.guard }], guard := some (1, true) }) (v := ?_) rfl (by kernel_rfl) (by kernel_rfl) (by kernel_rfl) (fun _ _ _ h => h) (Or.inl ⟨by rfl, ?hy⟩) (by assumption) ?_
    case hy => (intro w hSw; (try dsimp only at hSw); go_simp; first | done | with_reducible rfl)
    try simp only [Act.put, List.setIfInBounds_toArray, List.set_cons_zero, List.set_cons_succ]
    refine wpAnyH_take (i := 4) (oi := { dst := some 69, op := Op.move (Operand.tmp 3), type := 3, pos := "law.go:33", after := #[{ on := 1, ground := Ground.guard }], guard := some (1, true) }) (v := ?_) rfl (by kernel_rfl) (by kernel_rfl) (by kernel_rfl) (fun _ _ _ h => h) (Or.inl ⟨by rfl, ?hy⟩) (by assumption) ?_
    case hy => (intro w hSw; (try dsimp only at hSw); go_simp; first | done | with_reducible rfl)
    try simp only [Act.put, List.setIfInBounds_toArray, List.set_cons_zero, List.set_cons_succ]
    refine wpAnyH_take (i := 5) (oi := { dst := some 70, op := Op.move (Operand.tmp 4), type := 3, pos := "law.go:33", after := #[{ on := 1, ground := Ground.guard }], guard := some (1, true) }) (v := ?_) rfl (by kernel_rfl) (by kernel_rfl) (by kernel_rfl) (fun _ _ _ h => h) (Or.inl ⟨by rfl, ?hy⟩) (by assumption) ?_
    case hy => (intro w hSw; (try dsimp only at hSw); go_simp; first | done | with_reducible rfl)
    try simp only [Act.put, List.setIfInBounds_toArray, List.set_cons_zero, List.set_cons_succ]
    refine wpAnyH_take (i := 7) (oi := { dst := some 72, op := Op.load 26 (Operand.tmp 6), type := 26, pos := "law.go:33", after := #[{ on := 1, ground := Ground.guard }], guard := some (1, true) }) (v := ?_) rfl (by kernel_rfl) (by kernel_rfl) (by kernel_rfl) (fun _ _ _ h => h) (Or.inl ⟨by rfl, ?hy⟩) (by assumption) ?_
    case hy => (intro w hSw; (try dsimp only at hSw); go_simp; first | done | with_reducible rfl)
    try simp only [Act.put, List.setIfInBounds_toArray, List.set_cons_zero, List.set_cons_succ]
    refine wpAnyH_take (i := 8) (oi := { dst := some 73, op := Op.load 23 (Operand.tmp 7), type := 23, pos := "law.go:33", after := #[{ on := 1, ground := Ground.guard }], guard := some (1, true) }) (v := ?_) rfl (by kernel_rfl) (by kernel_rfl) (by kernel_rfl) (fun _ _ _ h => h) (Or.inl ⟨by rfl, ?hy⟩) (by assumption) ?_
    case hy => (intro w hSw; (try dsimp only at hSw); go_simp; first | done | with_reducible rfl)
    try simp only [Act.put, List.setIfInBounds_toArray, List.set_cons_zero, List.set_cons_succ]
    refine wpAnyH_take (i := 9) (oi := { dst := some 74, op := Op.move (Operand.tmp 3), type := 3, pos := "law.go:33", after := #[{ on := 1, ground := Ground.guard }], guard := some (1, true) }) (v := ?_) rfl (by kernel_rfl) (by kernel_rfl) (by kernel_rfl) (fun _ _ _ h => h) (Or.inl ⟨by rfl, ?hy⟩) (by assumption) ?_
    case hy => (intro w hSw; (try dsimp only at hSw); go_simp; first | done | with_reducible rfl)
    try simp only [Act.put, List.setIfInBounds_toArray, List.set_cons_zero, List.set_cons_succ]
    refine wpAnyH_take (i := 10) (oi := { dst := some 75, op := Op.move (Operand.tmp 4), type := 3, pos := "law.go:33", after := #[{ on := 1, ground := Ground.guard }], guard := some (1, true) }) (v := ?_) rfl (by kernel_rfl) (by kernel_rfl) (by kernel_rfl) (fun _ _ _ h => h) (Or.inl ⟨by rfl, ?hy⟩) (by assumption) ?_
    case hy => (intro w hSw; (try dsimp only at hSw); go_simp; first | done | with_reducible rfl)
    try simp only [Act.put, List.setIfInBounds_toArray, List.set_cons_zero, List.set_cons_succ]
    refine wpAnyH_ready (rs := [6]) (by kernel_rfl) (by simp) ?_
    refine AllReadyH.cons (o := { dst := some 71, op := Op.call { callee := Callee.value (Operand.func 20), args := #[Operand.tmp 67, Operand.tmp 68, Operand.tmp 69, Operand.tmp 70], argTypes := #[26, 23, 3, 3] }, type := 26, pos := "law.go:33", after := #[{ on := 2, ground := Ground.data }, { on := 3, ground := Ground.data }, { on := 4, ground := Ground.data }, { on := 5, ground := Ground.data }, { on := 1, ground := Ground.chain }, { on := 1, ground := Ground.guard }], guard := some (1, true) }) rfl (fun K hK => ?_) AllReadyH.nil
    go_simp
    (go_at_call 20; with_reducible refine Calls.mono (offset_any B ao n m g off f D dx dy _ HU.out.1 HU.out.2.1 (HV.out.below HX.out.low) HU.out.2.2.2.2.1 HU.out.2.2.2.2.2.1 HU.out.2.2.2.2.2.2.1 HU.out.2.2.2.2.2.2.2) ?_; rintro e wc ⟨hr, hb⟩; obtain ⟨co, cn, cm, cg, coff, rfl, hO, hg1, hg2, hln⟩ := retG hr; have HSc := hid hO.v; have HLc := hid hln; replace HX := hid (HX.out.below hb); clear hr hO hg1 hg2 hln hb)
    go_wp2_with fail
    refine hK.out _ _ ?_ (fun hHeld => ?_)
    · exact ⟨HX.out.b.c0, HX.out.b.c1, HX.out.b.c2, HX.out.b.c3, HX.out.b.c4, HX.out.d.c0, HX.out.d.c1, HX.out.d.c2, HX.out.d.c3, HX.out.t.c0, HX.out.t.c1, HX.out.t.c2, HX.out.t.c3, HX.out.x.c0, HX.out.x.c1, HX.out.x.c2, HX.out.x.c3⟩
    clear hK K
    try simp only [Act.put, List.setIfInBounds_toArray, List.set_cons_zero, List.set_cons_succ]
    refine wpAnyH_ready (rs := [11]) (by kernel_rfl) (by simp) ?_
    refine AllReadyH.cons (o := { dst := some 76, op := Op.call { callee := Callee.value (Operand.func 21), args := #[Operand.tmp 72, Operand.tmp 73, Operand.tmp 74, Operand.tmp 75], argTypes := #[26, 23, 3, 3] }, type := 26, pos := "law.go:33", after := #[{ on := 7, ground := Ground.data }, { on := 8, ground := Ground.data }, { on := 9, ground := Ground.data }, { on := 10, ground := Ground.data }, { on := 6, ground := Ground.chain }, { on := 1, ground := Ground.guard }], guard := some (1, true) }) rfl (fun K hK => ?_) AllReadyH.nil
    go_simp
    (go_at_call 21; with_reducible refine Calls.mono (refOffset_any B ao n m g off f D dx dy _ HU.out.1 HU.out.2.2.1 (HV.out.below HX.out.low) HU.out.2.2.2.2.1 HU.out.2.2.2.2.2.1 HU.out.2.2.2.2.2.2.1 HU.out.2.2.2.2.2.2.2) ?_; rintro e wc ⟨hr, hb⟩; obtain ⟨eo, en, em', eg, eoff, rfl, hO, hg1, hg2, hln⟩ := retG hr; have hnn := HLc.out.symm.trans hln; subst hnn; have HSe := hid hO.v; replace HSc := hid (HSc.out.below hb); replace HX := hid (HX.out.below hb); clear hr hO hg1 hg2 hln hb)
    go_wp2_with fail
    refine hK.out _ _ ?_ (fun hHeld => ?_)
    · exact ⟨HX.out.b.c0, HX.out.b.c1, HX.out.b.c2, HX.out.b.c3, HX.out.b.c4, HX.out.d.c0, HX.out.d.c1, HX.out.d.c2, HX.out.d.c3, HX.out.t.c0, HX.out.t.c1, HX.out.t.c2, HX.out.t.c3, HX.out.x.c0, HX.out.x.c1, HX.out.x.c2, HX.out.x.c3⟩
    clear hK K
    try simp only [Act.put, List.setIfInBounds_toArray, List.set_cons_zero, List.set_cons_succ]
    refine wpAnyH_ready (rs := [12]) (by kernel_rfl) (by simp) ?_
    refine AllReadyH.cons (o := { dst := some 77, op := Op.call { callee := Callee.value (Operand.func 17), args := #[Operand.tmp 71, Operand.tmp 76], argTypes := #[26, 26] }, type := 4, pos := "law.go:33", after := #[{ on := 6, ground := Ground.data }, { on := 11, ground := Ground.data }, { on := 11, ground := Ground.chain }, { on := 1, ground := Ground.guard }], guard := some (1, true) }) rfl (fun K hK => ?_) AllReadyH.nil
    go_simp
    (go_at_call 17; with_reducible refine Calls.mono (same_yes (orN D) co cn cm cg coff eo em' eg eoff _ _ HSc.out HSe.out) ?_; rintro e wc ⟨rfl, hb⟩; replace HX := hid (HX.out.below hb); clear hb)
    go_wp2_with fail
    refine hK.out _ _ ?_ (fun hHeld => ?_)
    · exact ⟨HX.out.b.c0, HX.out.b.c1, HX.out.b.c2, HX.out.b.c3, HX.out.b.c4, HX.out.d.c0, HX.out.d.c1, HX.out.d.c2, HX.out.d.c3, HX.out.t.c0, HX.out.t.c1, HX.out.t.c2, HX.out.t.c3, HX.out.x.c0, HX.out.x.c1, HX.out.x.c2, HX.out.x.c3⟩
    clear hK K
    try simp only [Act.put, List.setIfInBounds_toArray, List.set_cons_zero, List.set_cons_succ]
    refine wpAnyH_take (i := 13) (oi := { dst := some 78, op := Op.pick (Operand.tmp 66) (Operand.tmp 77) (Operand.const (Value.bool false)), type := 4, pos := "law.go:33", after := #[{ on := 1, ground := Ground.data }, { on := 12, ground := Ground.data }], guard := none }) (v := ?_) rfl (by kernel_rfl) (by kernel_rfl) (by kernel_rfl) (fun _ _ _ h => h) (Or.inl ⟨by rfl, ?hy⟩) (by assumption) ?_
    case hy => (intro w hSw; (try dsimp only at hSw); go_simp; first | done | with_reducible rfl)
    try simp only [Act.put, List.setIfInBounds_toArray, List.set_cons_zero, List.set_cons_succ]
    refine wpAnyH_take (i := 14) (oi := { dst := some 79, op := Op.move (Operand.tmp 78), type := 4, pos := "law.go:33", after := #[{ on := 13, ground := Ground.data }, { on := 12, ground := Ground.chain }], guard := none }) (v := ?_) rfl (by kernel_rfl) (by kernel_rfl) (by kernel_rfl) (fun _ _ _ h => h) (Or.inl ⟨by rfl, ?hy⟩) (by assumption) ?_
    case hy => (intro w hSw; (try dsimp only at hSw); go_simp; first | done | with_reducible rfl)
    try simp only [Act.put, List.setIfInBounds_toArray, List.set_cons_zero, List.set_cons_succ]
    refine wpAnyH_take (i := 15) (oi := { dst := some 80, op := Op.load 26 (Operand.tmp 6), type := 26, pos := "law.go:33", after := #[{ on := 14, ground := Ground.guard }], guard := some (14, true) }) (v := ?_) rfl (by kernel_rfl) (by kernel_rfl) (by kernel_rfl) (fun _ _ _ h => h) (Or.inl ⟨by rfl, ?hy⟩) (by assumption) ?_
    case hy => (intro w hSw; (try dsimp only at hSw); go_simp; first | done | with_reducible rfl)
    try simp only [Act.put, List.setIfInBounds_toArray, List.set_cons_zero, List.set_cons_succ]
    refine wpAnyH_take (i := 16) (oi := { dst := some 81, op := Op.load 23 (Operand.tmp 7), type := 23, pos := "law.go:33", after := #[{ on := 14, ground := Ground.guard }], guard := some (14, true) }) (v := ?_) rfl (by kernel_rfl) (by kernel_rfl) (by kernel_rfl) (fun _ _ _ h => h) (Or.inl ⟨by rfl, ?hy⟩) (by assumption) ?_
    case hy => (intro w hSw; (try dsimp only at hSw); go_simp; first | done | with_reducible rfl)
    try simp only [Act.put, List.setIfInBounds_toArray, List.set_cons_zero, List.set_cons_succ]
    refine wpAnyH_take (i := 17) (oi := { dst := some 82, op := Op.load 23 (Operand.tmp 8), type := 23, pos := "law.go:33", after := #[{ on := 14, ground := Ground.guard }], guard := some (14, true) }) (v := ?_) rfl (by kernel_rfl) (by kernel_rfl) (by kernel_rfl) (fun _ _ _ h => h) (Or.inl ⟨by rfl, ?hy⟩) (by assumption) ?_
    case hy => (intro w hSw; (try dsimp only at hSw); go_simp; first | done | with_reducible rfl)
    try simp only [Act.put, List.setIfInBounds_toArray, List.set_cons_zero, List.set_cons_succ]
    refine wpAnyH_take (i := 19) (oi := { dst := some 84, op := Op.load 26 (Operand.tmp 6), type := 26, pos := "law.go:33", after := #[{ on := 14, ground := Ground.guard }], guard := some (14, true) }) (v := ?_) rfl (by kernel_rfl) (by kernel_rfl) (by kernel_rfl) (fun _ _ _ h => h) (Or.inl ⟨by rfl, ?hy⟩) (by assumption) ?_
    case hy => (intro w hSw; (try dsimp only at hSw); go_simp; first | done | with_reducible rfl)
    try simp only [Act.put, List.setIfInBounds_toArray, List.set_cons_zero, List.set_cons_succ]
    refine wpAnyH_take (i := 20) (oi := { dst := some 85, op := Op.load 23 (Operand.tmp 7), type := 23, pos := "law.go:33", after := #[{ on := 14, ground := Ground.guard }], guard := some (14, true) }) (v := ?_) rfl (by kernel_rfl) (by kernel_rfl) (by kernel_rfl) (fun _ _ _ h => h) (Or.inl ⟨by rfl, ?hy⟩) (by assumption) ?_
    case hy => (intro w hSw; (try dsimp only at hSw); go_simp; first | done | with_reducible rfl)
    try simp only [Act.put, List.setIfInBounds_toArray, List.set_cons_zero, List.set_cons_succ]
    refine wpAnyH_take (i := 21) (oi := { dst := some 86, op := Op.load 23 (Operand.tmp 8), type := 23, pos := "law.go:33", after := #[{ on := 14, ground := Ground.guard }], guard := some (14, true) }) (v := ?_) rfl (by kernel_rfl) (by kernel_rfl) (by kernel_rfl) (fun _ _ _ h => h) (Or.inl ⟨by rfl, ?hy⟩) (by assumption) ?_
    case hy => (intro w hSw; (try dsimp only at hSw); go_simp; first | done | with_reducible rfl)
    try simp only [Act.put, List.setIfInBounds_toArray, List.set_cons_zero, List.set_cons_succ]
    refine wpAnyH_ready (rs := [18]) (by kernel_rfl) (by simp) ?_
    refine AllReadyH.cons (o := { dst := some 83, op := Op.call { callee := Callee.value (Operand.func 22), args := #[Operand.tmp 80, Operand.tmp 81, Operand.tmp 82], argTypes := #[26, 23, 23] }, type := 26, pos := "law.go:33", after := #[{ on := 15, ground := Ground.data }, { on := 16, ground := Ground.data }, { on := 17, ground := Ground.data }, { on := 14, ground := Ground.chain }, { on := 14, ground := Ground.guard }], guard := some (14, true) }) rfl (fun K hK => ?_) AllReadyH.nil
    go_simp
    (go_at_call 22; with_reducible refine Calls.mono (clip_any B ao n m g off f D T _ HU.out.1 HU.out.2.1 (HV.out.below HX.out.low) HU.out.2.2.2.2.1 HU.out.2.2.2.2.2.1) ?_; rintro e wc ⟨hr, hb⟩; obtain ⟨ko, kn, km, kg, koff, rfl, hO, hg1, hg2, hln⟩ := retG hr; have HSk := hid hO.v; have HLk := hid hln; replace HX := hid (HX.out.below hb); clear hr hO hg1 hg2 hln hb)
    go_wp2_with fail
    refine hK.out _ _ ?_ (fun hHeld => ?_)
    · exact ⟨HX.out.b.c0, HX.out.b.c1, HX.out.b.c2, HX.out.b.c3, HX.out.b.c4, HX.out.d.c0, HX.out.d.c1, HX.out.d.c2, HX.out.d.c3, HX.out.t.c0, HX.out.t.c1, HX.out.t.c2, HX.out.t.c3, HX.out.x.c0, HX.out.x.c1, HX.out.x.c2, HX.out.x.c3⟩
    clear hK K
    try simp only [Act.put, List.setIfInBounds_toArray, List.set_cons_zero, List.set_cons_succ]
    refine wpAnyH_ready (rs := [22]) (by kernel_rfl) (by simp) ?_
    refine AllReadyH.cons (o := { dst := some 87, op := Op.call { callee := Callee.value (Operand.func 23), args := #[Operand.tmp 84, Operand.tmp 85, Operand.tmp 86], argTypes := #[26, 23, 23] }, type := 26, pos := "law.go:33", after := #[{ on := 19, ground := Ground.data }, { on := 20, ground := Ground.data }, { on := 21, ground := Ground.data }, { on := 18, ground := Ground.chain }, { on := 14, ground := Ground.guard }], guard := some (14, true) }) rfl (fun K hK => ?_) AllReadyH.nil
    go_simp
    (go_at_call 23; with_reducible refine Calls.mono (refClip_any B ao n m g off f D T _ HU.out.1 HU.out.2.2.1 (HV.out.below HX.out.low) HU.out.2.2.2.2.1 HU.out.2.2.2.2.2.1) ?_; rintro e wc ⟨hr, hb⟩; obtain ⟨qo, qn, qm', qg, qoff, rfl, hO, hg1, hg2, hln⟩ := retG hr; have hnn := HLk.out.symm.trans hln; subst hnn; have HSq := hid hO.v; replace HSk := hid (HSk.out.below hb); replace HX := hid (HX.out.below hb); clear hr hO hg1 hg2 hln hb)
    go_wp2_with fail
    refine hK.out _ _ ?_ (fun hHeld => ?_)
    · exact ⟨HX.out.b.c0, HX.out.b.c1, HX.out.b.c2, HX.out.b.c3, HX.out.b.c4, HX.out.d.c0, HX.out.d.c1, HX.out.d.c2, HX.out.d.c3, HX.out.t.c0, HX.out.t.c1, HX.out.t.c2, HX.out.t.c3, HX.out.x.c0, HX.out.x.c1, HX.out.x.c2, HX.out.x.c3⟩
    clear hK K
    try simp only [Act.put, List.setIfInBounds_toArray, List.set_cons_zero, List.set_cons_succ]
    refine wpAnyH_ready (rs := [23]) (by kernel_rfl) (by simp) ?_
    refine AllReadyH.cons (o := { dst := some 88, op := Op.call { callee := Callee.value (Operand.func 17), args := #[Operand.tmp 83, Operand.tmp 87], argTypes := #[26, 26] }, type := 4, pos := "law.go:33", after := #[{ on := 18, ground := Ground.data }, { on := 22, ground := Ground.data }, { on := 22, ground := Ground.chain }, { on := 14, ground := Ground.guard }], guard := some (14, true) }) rfl (fun K hK => ?_) AllReadyH.nil
    go_simp
    (go_at_call 17; with_reducible refine Calls.mono (same_yes (orN D) ko kn km kg koff qo qm' qg qoff _ _ HSk.out HSq.out) ?_; rintro e wc ⟨rfl, hb⟩; replace HX := hid (HX.out.below hb); clear hb)
    go_wp2_with fail
    refine hK.out _ _ ?_ (fun hHeld => ?_)
    · exact ⟨HX.out.b.c0, HX.out.b.c1, HX.out.b.c2, HX.out.b.c3, HX.out.b.c4, HX.out.d.c0, HX.out.d.c1, HX.out.d.c2, HX.out.d.c3, HX.out.t.c0, HX.out.t.c1, HX.out.t.c2, HX.out.t.c3, HX.out.x.c0, HX.out.x.c1, HX.out.x.c2, HX.out.x.c3⟩
    clear hK K
    try simp only [Act.put, List.setIfInBounds_toArray, List.set_cons_zero, List.set_cons_succ]
    refine wpAnyH_take (i := 24) (oi := { dst := some 89, op := Op.pick (Operand.tmp 79) (Operand.tmp 88) (Operand.const (Value.bool false)), type := 4, pos := "law.go:33", after := #[{ on := 14, ground := Ground.data }, { on := 23, ground := Ground.data }], guard := none }) (v := ?_) rfl (by kernel_rfl) (by kernel_rfl) (by kernel_rfl) (fun _ _ _ h => h) (Or.inl ⟨by rfl, ?hy⟩) (by assumption) ?_
    case hy => (intro w hSw; (try dsimp only at hSw); go_simp; first | done | with_reducible rfl)
    try simp only [Act.put, List.setIfInBounds_toArray, List.set_cons_zero, List.set_cons_succ]
    refine wpAnyH_take (i := 25) (oi := { dst := some 90, op := Op.move (Operand.tmp 89), type := 4, pos := "law.go:33", after := #[{ on := 24, ground := Ground.data }, { on := 23, ground := Ground.chain }], guard := none }) (v := ?_) rfl (by kernel_rfl) (by kernel_rfl) (by kernel_rfl) (fun _ _ _ h => h) (Or.inl ⟨by rfl, ?hy⟩) (by assumption) ?_
    case hy => (intro w hSw; (try dsimp only at hSw); go_simp; first | done | with_reducible rfl)
    try simp only [Act.put, List.setIfInBounds_toArray, List.set_cons_zero, List.set_cons_succ]
    refine wpAnyH_take (i := 26) (oi := { dst := some 91, op := Op.load 23 (Operand.tmp 7), type := 23, pos := "law.go:33", after := #[{ on := 25, ground := Ground.guard }], guard := some (25, true) }) (v := ?_) rfl (by kernel_rfl) (by kernel_rfl) (by kernel_rfl) (fun _ _ _ h => h) (Or.inl ⟨by rfl, ?hy⟩) (by assumption) ?_
    case hy => (intro w hSw; (try dsimp only at hSw); go_simp; first | done | with_reducible rfl)
    try simp only [Act.put, List.setIfInBounds_toArray, List.set_cons_zero, List.set_cons_succ]
    refine wpAnyH_take (i := 27) (oi := { dst := some 92, op := Op.load 28 (Operand.tmp 11), type := 28, pos := "law.go:33", after := #[{ on := 25, ground := Ground.guard }], guard := some (25, true) }) (v := ?_) rfl (by kernel_rfl) (by kernel_rfl) (by kernel_rfl) (fun _ _ _ h => h) (Or.inl ⟨by rfl, ?hy⟩) (by assumption) ?_
    case hy => (intro w hSw; (try dsimp only at hSw); go_simp; first | done | with_reducible rfl)
    try simp only [Act.put, List.setIfInBounds_toArray, List.set_cons_zero, List.set_cons_succ]
    refine wpAnyH_take (i := 28) (oi := { dst := some 93, op := Op.load 23 (Operand.tmp 8), type := 23, pos := "law.go:33", after := #[{ on := 25, ground := Ground.guard }], guard := some (25, true) }) (v := ?_) rfl (by kernel_rfl) (by kernel_rfl) (by kernel_rfl) (fun _ _ _ h => h) (Or.inl ⟨by rfl, ?hy⟩) (by assumption) ?_
    case hy => (intro w hSw; (try dsimp only at hSw); go_simp; first | done | with_reducible rfl)
    try simp only [Act.put, List.setIfInBounds_toArray, List.set_cons_zero, List.set_cons_succ]
    refine wpAnyH_take (i := 30) (oi := { dst := some 95, op := Op.load 23 (Operand.tmp 7), type := 23, pos := "law.go:33", after := #[{ on := 25, ground := Ground.guard }], guard := some (25, true) }) (v := ?_) rfl (by kernel_rfl) (by kernel_rfl) (by kernel_rfl) (fun _ _ _ h => h) (Or.inl ⟨by rfl, ?hy⟩) (by assumption) ?_
    case hy => (intro w hSw; (try dsimp only at hSw); go_simp; first | done | with_reducible rfl)
    try simp only [Act.put, List.setIfInBounds_toArray, List.set_cons_zero, List.set_cons_succ]
    refine wpAnyH_take (i := 31) (oi := { dst := some 96, op := Op.load 28 (Operand.tmp 11), type := 28, pos := "law.go:33", after := #[{ on := 25, ground := Ground.guard }], guard := some (25, true) }) (v := ?_) rfl (by kernel_rfl) (by kernel_rfl) (by kernel_rfl) (fun _ _ _ h => h) (Or.inl ⟨by rfl, ?hy⟩) (by assumption) ?_
    case hy => (intro w hSw; (try dsimp only at hSw); go_simp; first | done | with_reducible rfl)
    try simp only [Act.put, List.setIfInBounds_toArray, List.set_cons_zero, List.set_cons_succ]
    refine wpAnyH_take (i := 32) (oi := { dst := some 97, op := Op.load 23 (Operand.tmp 8), type := 23, pos := "law.go:33", after := #[{ on := 25, ground := Ground.guard }], guard := some (25, true) }) (v := ?_) rfl (by kernel_rfl) (by kernel_rfl) (by kernel_rfl) (fun _ _ _ h => h) (Or.inl ⟨by rfl, ?hy⟩) (by assumption) ?_
    case hy => (intro w hSw; (try dsimp only at hSw); go_simp; first | done | with_reducible rfl)
    try simp only [Act.put, List.setIfInBounds_toArray, List.set_cons_zero, List.set_cons_succ]
    refine wpAnyH_ready (rs := [29]) (by kernel_rfl) (by simp) ?_
    refine AllReadyH.cons (o := { dst := some 94, op := Op.call { callee := Callee.value (Operand.func 24), args := #[Operand.tmp 91, Operand.tmp 92, Operand.tmp 93], argTypes := #[23, 28, 23] }, type := 26, pos := "law.go:33", after := #[{ on := 26, ground := Ground.data }, { on := 27, ground := Ground.data }, { on := 28, ground := Ground.data }, { on := 25, ground := Ground.chain }, { on := 25, ground := Ground.guard }], guard := some (25, true) }) rfl (fun K hK => ?_) AllReadyH.nil
    go_simp
    (go_at_call 24; with_reducible refine Calls.mono (flood_any D T p _ HU.out.2.2.2.2.1 HU.out.2.2.2.2.2.1) ?_; rintro e wc ⟨hr, hb⟩; obtain ⟨uo, un, um, ug, uoff, rfl, hO, hg1, hg2, hln⟩ := retG hr; have HSu := hid hO.v; have HLu := hid hln; replace HX := hid (HX.out.below hb); clear hr hO hg1 hg2 hln hb)
    go_wp2_with fail
    refine hK.out _ _ ?_ (fun hHeld => ?_)
    · exact ⟨HX.out.b.c0, HX.out.b.c1, HX.out.b.c2, HX.out.b.c3, HX.out.b.c4, HX.out.d.c0, HX.out.d.c1, HX.out.d.c2, HX.out.d.c3, HX.out.t.c0, HX.out.t.c1, HX.out.t.c2, HX.out.t.c3, HX.out.x.c0, HX.out.x.c1, HX.out.x.c2, HX.out.x.c3⟩
    clear hK K
    try simp only [Act.put, List.setIfInBounds_toArray, List.set_cons_zero, List.set_cons_succ]
    refine wpAnyH_ready (rs := [33]) (by kernel_rfl) (by simp) ?_
    refine AllReadyH.cons (o := { dst := some 98, op := Op.call { callee := Callee.value (Operand.func 25), args := #[Operand.tmp 95, Operand.tmp 96, Operand.tmp 97], argTypes := #[23, 28, 23] }, type := 26, pos := "law.go:33", after := #[{ on := 30, ground := Ground.data }, { on := 31, ground := Ground.data }, { on := 32, ground := Ground.data }, { on := 29, ground := Ground.chain }, { on := 25, ground := Ground.guard }], guard := some (25, true) }) rfl (fun K hK => ?_) AllReadyH.nil
    go_simp
    (go_at_call 25; with_reducible refine Calls.mono (refFlood_any D T p _ HU.out.2.2.2.2.1 HU.out.2.2.2.2.2.1) ?_; rintro e wc ⟨hr, hb⟩; obtain ⟨vo, vn, vm', vg, voff, rfl, hO, hg1, hg2, hln⟩ := retG hr; have hnn := HLu.out.symm.trans hln; subst hnn; have HSv := hid hO.v; replace HSu := hid (HSu.out.below hb); replace HX := hid (HX.out.below hb); clear hr hO hg1 hg2 hln hb)
    go_wp2_with fail
    refine hK.out _ _ ?_ (fun hHeld => ?_)
    · exact ⟨HX.out.b.c0, HX.out.b.c1, HX.out.b.c2, HX.out.b.c3, HX.out.b.c4, HX.out.d.c0, HX.out.d.c1, HX.out.d.c2, HX.out.d.c3, HX.out.t.c0, HX.out.t.c1, HX.out.t.c2, HX.out.t.c3, HX.out.x.c0, HX.out.x.c1, HX.out.x.c2, HX.out.x.c3⟩
    clear hK K
    try simp only [Act.put, List.setIfInBounds_toArray, List.set_cons_zero, List.set_cons_succ]
    refine wpAnyH_ready (rs := [34]) (by kernel_rfl) (by simp) ?_
    refine AllReadyH.cons (o := { dst := some 99, op := Op.call { callee := Callee.value (Operand.func 17), args := #[Operand.tmp 94, Operand.tmp 98], argTypes := #[26, 26] }, type := 4, pos := "law.go:33", after := #[{ on := 29, ground := Ground.data }, { on := 33, ground := Ground.data }, { on := 33, ground := Ground.chain }, { on := 25, ground := Ground.guard }], guard := some (25, true) }) rfl (fun K hK => ?_) AllReadyH.nil
    go_simp
    (go_at_call 17; with_reducible refine Calls.mono (same_yes (orN D) uo un um ug uoff vo vm' vg voff _ _ HSu.out HSv.out) ?_; rintro e wc ⟨rfl, hb⟩; replace HX := hid (HX.out.below hb); clear hb)
    go_wp2_with fail
    refine hK.out _ _ ?_ (fun hHeld => ?_)
    · exact ⟨HX.out.b.c0, HX.out.b.c1, HX.out.b.c2, HX.out.b.c3, HX.out.b.c4, HX.out.d.c0, HX.out.d.c1, HX.out.d.c2, HX.out.d.c3, HX.out.t.c0, HX.out.t.c1, HX.out.t.c2, HX.out.t.c3, HX.out.x.c0, HX.out.x.c1, HX.out.x.c2, HX.out.x.c3⟩
    clear hK K
    try simp only [Act.put, List.setIfInBounds_toArray, List.set_cons_zero, List.set_cons_succ]
    refine wpAnyH_take (i := 35) (oi := { dst := some 100, op := Op.pick (Operand.tmp 90) (Operand.tmp 99) (Operand.const (Value.bool false)), type := 4, pos := "law.go:33", after := #[{ on := 25, ground := Ground.data }, { on := 34, ground := Ground.data }], guard := none }) (v := ?_) rfl (by kernel_rfl) (by kernel_rfl) (by kernel_rfl) (fun _ _ _ h => h) (Or.inl ⟨by rfl, ?hy⟩) (by assumption) ?_
    case hy => (intro w hSw; (try dsimp only at hSw); go_simp; first | done | with_reducible rfl)
    try simp only [Act.put, List.setIfInBounds_toArray, List.set_cons_zero, List.set_cons_succ]
    refine wpAnyH_take (i := 36) (oi := { dst := some 12, op := Op.assign (Operand.tmp 100), type := 4, pos := "law.go:33", after := #[{ on := 35, ground := Ground.data }, { on := 34, ground := Ground.chain }, { on := 0, ground := Ground.phase }, { on := 1, ground := Ground.phase }, { on := 2, ground := Ground.phase }, { on := 3, ground := Ground.phase }, { on := 4, ground := Ground.phase }, { on := 5, ground := Ground.phase }, { on := 6, ground := Ground.phase }, { on := 7, ground := Ground.phase }, { on := 8, ground := Ground.phase }, { on := 9, ground := Ground.phase }, { on := 10, ground := Ground.phase }, { on := 11, ground := Ground.phase }, { on := 12, ground := Ground.phase }, { on := 13, ground := Ground.phase }, { on := 14, ground := Ground.phase }, { on := 15, ground := Ground.phase }, { on := 16, ground := Ground.phase }, { on := 17, ground := Ground.phase }, { on := 18, ground := Ground.phase }, { on := 19, ground := Ground.phase }, { on := 20, ground := Ground.phase }, { on := 21, ground := Ground.phase }, { on := 22, ground := Ground.phase }, { on := 23, ground := Ground.phase }, { on := 24, ground := Ground.phase }, { on := 25, ground := Ground.phase }, { on := 26, ground := Ground.phase }, { on := 27, ground := Ground.phase }, { on := 28, ground := Ground.phase }, { on := 29, ground := Ground.phase }, { on := 30, ground := Ground.phase }, { on := 31, ground := Ground.phase }, { on := 32, ground := Ground.phase }, { on := 33, ground := Ground.phase }, { on := 34, ground := Ground.phase }, { on := 35, ground := Ground.phase }], guard := none }) (v := ?_) rfl (by kernel_rfl) (by kernel_rfl) (by kernel_rfl) (fun _ _ _ h => h) (Or.inl ⟨by rfl, ?hy⟩) (by assumption) ?_
    case hy => (intro w hSw; (try dsimp only at hSw); go_simp; first | done | with_reducible rfl)
    try simp only [Act.put, List.setIfInBounds_toArray, List.set_cons_zero, List.set_cons_succ]
    refine wpAnyH_done (by kernel_rfl) ?_ _
    go_wp2
    go_ret
    exact ⟨rfl, HX.out.low⟩

theorem own : ownKnob Try.prog.godebug = none := by kernel_rfl

set_option maxRecDepth 100000 in
theorem lifted (os : Os) (started : os.Started) (H : Type) (enc : TypeId × Value → H) :
    ReturnsInHanded {} Try.checked os 3 .any (Rows.movePlacesSpec.pre6 enc Try.prog Try.f3 Rows.movePlacesRow.domain false) (Rows.movePlacesSpec.post enc Try.prog Try.f3 false true false false) := by
  refine returnsInHanded_of_change (C := Try.checked) own started (by kernel_rfl) Try.func3
    (ChangeSpec.witness6 (enc := enc) (C := Try.checked) false ⟨#[], #[.agg #[.int .i64 0, .int .i64 0, .int .i64 0, .int .i64 0, .slice none 0 0], .agg #[.int .i64 0, .int .i64 0, .int .i64 0, .int .i64 0], .agg #[.int .i64 0, .int .i64 0, .int .i64 0, .int .i64 0], .int .i64 0, .int .i64 0, .agg #[.int .u8 0, .int .u8 0, .int .u8 0, .int .u8 0]], []⟩ 8 (by kernel_rfl) (by kernel_rfl) (by kernel_rfl) (by kernel_rfl)) ?_
  intro W base args ds gs before hval0 hW hcnd _
  have hval : ∀ (j : Nat) t v, Try.f3.params[j]? = some t → args[j]? = some v → Value.okWide Try.prog W .any base t v := hval0
  have hW' := hW
  obtain ⟨p, q, hA0, hV, rfl, hfz, hnd⟩ := hW
  have hA : DataW.TrodAll enc Try.prog W 0 (fun _ => true) true Try.f3.params.toList args.toList ds p := hA0
  rw [Try.params3] at hA hval
  obtain ⟨v0, vs0, d0, ds0, p0, q0, hargs, rfl, rfl, h0, r0⟩ := trodAll_cons hA
  obtain ⟨v1, vs1, d1, ds1, p1, q1, rfl, rfl, rfl, h1, r1⟩ := trodAll_cons r0
  obtain ⟨v2, vs2, d2, ds2, p2, q2, rfl, rfl, rfl, h2, r2⟩ := trodAll_cons r1
  obtain ⟨v3, vs3, d3, ds3, p3, q3, rfl, rfl, rfl, h3, r3⟩ := trodAll_cons r2
  obtain ⟨v4, vs4, d4, ds4, p4, q4, rfl, rfl, rfl, h4, r4⟩ := trodAll_cons r3
  obtain ⟨v5, vs5, d5, ds5, p5, q5, rfl, rfl, rfl, h5, r5⟩ := trodAll_cons r4
  obtain ⟨rfl, rfl, rfl⟩ := trodAll_nil r5
  obtain rfl : args = #[v0, v1, v2, v3, v4, v5] := by cases args; simp_all
  obtain ⟨rfl, rfl⟩ := trodVars_none hV
  obtain ⟨B, ao, n, c, g, off, l, rfl, hv0, hp0⟩ := open_buf (hval 0 26 v0 rfl rfl) h0
  obtain ⟨D, rfl⟩ := open_rect (hval 1 23 v1 rfl rfl) h1
  obtain ⟨T, rfl⟩ := open_rect (hval 2 23 v2 rfl rfl) h2
  obtain ⟨dx, rfl, -, -, -⟩ := open_int Try.underlying3 (hval 3 3 v3 rfl rfl) h3
  obtain ⟨dy, rfl, -, -, -⟩ := open_int Try.underlying3 (hval 4 3 v4 rfl rfl) h4
  obtain ⟨px, rfl, hb5⟩ := open_px (hval 5 28 v5 rfl rfl) h5
  clear hA0 hval0
  simp only [List.append_nil] at hW'
  have hlt : ∀ x ∈ p0 ++ (p1 ++ (p2 ++ (p3 ++ (p4 ++ (p5))))), x.block < W.heap.size := fun x hx => by simpa using hW'.lt x (by simpa using hx)
  refine (walk B ao n c g off l D T dx dy px W hv0 hp0 hb5).mono fun e W' ⟨he, hg⟩ => ?_
  subst he
  have t0 := Below.trod laidOut (by kernel_rfl) (of_decide_eq_true (by kernel_rfl)) h0 hg (fun x hx => hlt x (List.mem_append_left _ hx))
  have t1 := Below.trod laidOut (by kernel_rfl) (of_decide_eq_true (by kernel_rfl)) h1 hg (fun x hx => hlt x (List.mem_append_right _ (List.mem_append_left _ hx)))
  have t2 := Below.trod laidOut (by kernel_rfl) (of_decide_eq_true (by kernel_rfl)) h2 hg (fun x hx => hlt x (List.mem_append_right _ (List.mem_append_right _ (List.mem_append_left _ hx))))
  have t3 := Below.trod laidOut (by kernel_rfl) (of_decide_eq_true (by kernel_rfl)) h3 hg (fun x hx => hlt x (List.mem_append_right _ (List.mem_append_right _ (List.mem_append_right _ (List.mem_append_left _ hx)))))
  have t4 := Below.trod laidOut (by kernel_rfl) (of_decide_eq_true (by kernel_rfl)) h4 hg (fun x hx => hlt x (List.mem_append_right _ (List.mem_append_right _ (List.mem_append_right _ (List.mem_append_right _ (List.mem_append_left _ hx))))))
  have t5 := Below.trod laidOut (by kernel_rfl) (of_decide_eq_true (by kernel_rfl)) h5 hg (fun x hx => hlt x (List.mem_append_right _ (List.mem_append_right _ (List.mem_append_right _ (List.mem_append_right _ (List.mem_append_right _ (hx)))))))
  exact ⟨_, rfl, ⟨_, _, _, _, _, _, hW', (trodAll_cons_mk (shut_bool Try.underlying4 _) trodAll_mk0), (trodAll_cons_mk t0 (trodAll_cons_mk t1 (trodAll_cons_mk t2 (trodAll_cons_mk t3 (trodAll_cons_mk t4 (trodAll_cons_mk t5 trodAll_mk0)))))), rfl, hg.frame _, fun h => by cases h⟩⟩

theorem over : Rows.movePlacesRow.holds Try.pinned (OpenSpec.ofChange Rows.movePlacesSpec) :=
  OpenClaim.holds_of_wide 3 Try.f3 rfl rfl rfl rfl rfl rfl rfl ⟨rfl, rfl, rfl, rfl, rfl⟩ rfl rfl rfl rfl rfl (by kernel_rfl) Try.func3 (by kernel_rfl)
    (of_decide_eq_true (by kernel_rfl)) (by unfold Func.isWrapper; first | (rw [if_pos (by decide +kernel)]; kernel_rfl) | (rw [if_neg (by decide +kernel)]; exact ⟨rfl, rfl⟩))
    (fun os started H enc _ => lifted os started H enc)

theorem proved : Rows.MovePlacesSaid := over
#print axioms proved
end Go.Proofs.Ytfgfgfmimejpdaa.movePlaces
