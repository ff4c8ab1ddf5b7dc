/- What stands in a shadow is right; what is offset there and back is what it was; a shadow of nothing changes nothing; no condition. -/
import Derived.Test.YtfgfgfmimejpdaaRows
import Derived.WalkKit
import Derived.ProofKit
import Derived.OpenShut
import Derived.Test.YtfgfgfmimejpdaaMgRight
import Derived.Test.YtfgfgfmimejpdaaFine
import Derived.Test.YtfgfgfmimejpdaaShadow
import Derived.Test.YtfgfgfmimejpdaaWins
import Derived.Test.YtfgfgfmimejpdaaMoves1
import Derived.Deep.DeepCutAuto
import Derived.Deep.LoopGhost
namespace Go.Proofs.Ytfgfgfmimejpdaa.moveRight
open Go.ChangeShapes Go.WideShapes Go.ChangeAt Go.RowKit Num
set_option linter.unusedVariables false
set_option linter.unusedSimpArgs false
/-- what is handed in stands -/
structure Kr (W : World) (B : R) (ao : Option Addr) (n m : Nat) (D : R) (p : X) (w : World) : Prop where
  b : Has5 w W.heap.size B ao n m
  d : Rc.Has4 w (W.heap.size + 1) (.int .i64 D.x0) (.int .i64 D.y0) (.int .i64 D.x1) (.int .i64 D.y1)
  x : Rc.Has4 w (W.heap.size + 1 + 1) (.int .u8 p.c0) (.int .u8 p.c1) (.int .u8 p.c2) (.int .u8 p.c3)
  low : Below W.heap.size W w
  sz : W.heap.size + 1 + 1 + 1 ≤ w.heap.size
theorem Kr.below {W : World} {B : R} {ao : Option Addr} {n m : Nat} {D : R} {p : X} {w w' : World} (x : Kr W B ao n m D p w) (hb : Below w.heap.size w w') : Kr W B ao n m D p w' := ⟨x.b.below hb, x.d.below hb, x.x.below hb, x.low.trans (hb.mono x.low.size), Nat.le_trans x.sz hb.size⟩
theorem Kr.but {W : World} {B : R} {ao : Option Addr} {n m : Nat} {D : R} {p : X} {w w' : World} (x : Kr W B ao n m D p w) {j : Nat} (hb : But j w w') (hj : W.heap.size + 1 + 1 + 1 ≤ j) : Kr W B ao n m D p w' := ⟨x.b.but hb (by omega), has4_but x.d hb (by omega), has4_but x.x hb (by omega), x.low.trans (hb.low (by omega) x.low.size), Nat.le_trans x.sz hb.size⟩
theorem kr_new (W : World) (B : R) (ao : Option Addr) (n m : Nat) (D : R) (p : X) : Kr W B ao n m D p ((((W.alloc (.cells #[.int .i64 B.x0, .int .i64 B.y0, .int .i64 B.x1, .int .i64 B.y1, .slice ao n m] 26)).alloc (.cells #[.int .i64 D.x0, .int .i64 D.y0, .int .i64 D.x1, .int .i64 D.y1] 23)).alloc (.cells #[.int .u8 p.c0, .int .u8 p.c1, .int .u8 p.c2, .int .u8 p.c3] 28))) := ⟨((Has5.new rfl _ _ _ _ _ _ _ _).alloc _).alloc _, (Rc.Has4.new (by simp) _ _ _ _ _).alloc _, Rc.Has4.new (by simp) _ _ _ _ _, ((((Below.refl _ _).alloc (Nat.le_refl _) _).alloc (by simp) _).alloc (by simp; omega) _), by simp⟩
theorem box4 (a b c d : Int) (w : World) :
    Calls Try.prog 11 #[.agg #[.int .i64 a, .int .i64 b, .int .i64 c, .int .i64 d]] w fun e w' => e = .returned (.bool (fineF ⟨a, b, c, d⟩ 0 0 400)) ∧ Below w.heap.size w w' := box_law ⟨a, b, c, d⟩ w
theorem at_right {B : R} {f : Int → Int → X} (hr : ∀ x y, rightX (f x y)) (x y : Int) : rightX (atX B f x y) := by
  unfold atX
  split
  · exact hr x y
  · exact right_no
theorem shad_right {B : R} {f : Int → Int → X} {dx dy : Int} {rx ry : Nat} {p : X} (hb : ∀ x y, byteX (f x y)) (hr : ∀ x y, rightX (f x y)) (hp : byteX p) (hpr : rightX p) (x y : Int) : rgtB (shadX B f dx dy rx ry p x y) = true := by
  have hk := (soft_byte (B := B) hb dx dy rx ry x y).2.2.2
  exact decide_eq_true (over_right (at_byte hb x y) (scale_byte hp hk) (at_right hr x y) (scale_right hk.1 hpr))
theorem win_img {B D : R} {f : Int → Int → X} {dx dy : Int} {rx ry : Nat} (hb : ∀ x y, byteX (f x y)) : img (orN D) (shadX B f dx dy rx ry noX) = img (orN D) (copyG D (atX B f) 0 0 fun _ _ => noX) := by
  apply img_ext
  intro x y h
  rw [has_orN] at h
  unfold shadX copyG
  rw [scale_no, over_onto (at_byte hb x y), if_pos h, Int.sub_zero, Int.sub_zero]
theorem back_img {B D : R} {f : Int → Int → X} {dx dy : Int} : img (orN D) (fun x y => atX (orN ⟨D.x0 + dx, D.y0 + dy, D.x1 + dx, D.y1 + dy⟩) (fun x y => atX B f (x - dx) (y - dy)) (x - -dx) (y - -dy)) = img (orN D) (copyG D (atX B f) 0 0 fun _ _ => noX) := by
  apply img_ext
  intro x y h
  rw [has_orN] at h
  have h' := hasB_iff.1 h
  unfold copyG
  rw [if_pos h, Int.sub_zero, Int.sub_zero]
  have h2 : hasB (orN ⟨D.x0 + dx, D.y0 + dy, D.x1 + dx, D.y1 + dy⟩) (x - -dx) (y - -dy) = true := by
    rw [has_orN]
    apply hasB_iff.2
    dsimp only
    omega
  show (if hasB (orN ⟨D.x0 + dx, D.y0 + dy, D.x1 + dx, D.y1 + dy⟩) (x - -dx) (y - -dy) = true then atX B f (x - -dx - dx) (y - -dy - dy) else noX) = _
  rw [if_pos h2, show x - -dx - dx = x by omega, show y - -dy - dy = y by omega]
/-- while a shadow is looked through -/
structure Lm (W : World) (B : R) (ao : Option Addr) (n m : Nat) (D : R) (p : X) (k13 : Nat) (eo : Option Addr) (en em eg eoff : Nat) (l : List X) (wr : World) : Prop where
  x : Kr W B ao n m D p wr
  h : Has5 wr k13 (orN D) eo en em
  v : Vx wr eo en em eg eoff l
theorem Lm.below {W : World} {B : R} {ao : Option Addr} {n m : Nat} {D : R} {p : X} {k13 : Nat} {eo : Option Addr} {en em eg eoff : Nat} {l : List X} {wr wr' : World} (x : Lm W B ao n m D p k13 eo en em eg eoff l wr) (hb : Below wr.heap.size wr wr') : Lm W B ao n m D p k13 eo en em eg eoff l wr' := ⟨x.x.below hb, x.h.below hb, x.v.below hb⟩
/-- with one more box -/
structure Lk (W : World) (B : R) (ao : Option Addr) (n m : Nat) (D : R) (p : X) (k15 : Nat) (T : R) (wr : World) : Prop where
  x : Kr W B ao n m D p wr
  a : Rc.Has4 wr k15 (.int .i64 T.x0) (.int .i64 T.y0) (.int .i64 T.x1) (.int .i64 T.y1)
  k : W.heap.size + 1 + 1 + 1 ≤ k15
theorem Lk.below {W : World} {B : R} {ao : Option Addr} {n m : Nat} {D : R} {p : X} {k15 : Nat} {T : R} {wr wr' : World} (x : Lk W B ao n m D p k15 T wr) (hb : Below wr.heap.size wr wr') : Lk W B ao n m D p k15 T wr' := ⟨x.x.below hb, x.a.below hb, x.k⟩
theorem Lk.but {W : World} {B : R} {ao : Option Addr} {n m : Nat} {D : R} {p : X} {k15 : Nat} {T : R} {wr wr' : World} (x : Lk W B ao n m D p k15 T wr) {j : Nat} (hb : But j wr wr') (hj : W.heap.size + 1 + 1 + 1 ≤ j) (hk : k15 ≠ j) : Lk W B ao n m D p k15 T wr' := ⟨x.x.but hb hj, has4_but x.a hb hk, x.k⟩
theorem lk_buf {W : World} {B : R} {ao : Option Addr} {n m : Nat} {D : R} {p : X} {k15 : Nat} {T : R} {wr : World} (x : Lk W B ao n m D p k15 T wr) : Lk W B ao n m D p k15 T (wr.alloc (.cells #[.int .i64 0, .int .i64 0, .int .i64 0, .int .i64 0, .slice none 0 0] 26)) ∧ W.heap.size + 1 + 1 + 1 ≤ wr.heap.size ∧ Has5 (wr.alloc (.cells #[.int .i64 0, .int .i64 0, .int .i64 0, .int .i64 0, .slice none 0 0] 26)) wr.heap.size ⟨0, 0, 0, 0⟩ none 0 0 ∧ k15 ≠ wr.heap.size := ⟨x.below ((Below.refl _ _).alloc (Nat.le_refl _) _), x.x.sz, Has5.new rfl _ _ _ _ _ _ _ _, Nat.ne_of_lt (World.block_lt_of_cell? wr ⟨k15, 0, none⟩ x.a.c0)⟩

theorem shadow_zero (B : R) (ao : Option Addr) (n m g off : Nat) (f : Int → Int → X) (D : R) (dx dy : Int) (rx ry : Nat) (w : World) (hn : n ≤ 5000) (hB : bufB B n = true) (hV : Vx w ao n m g off (img B f)) (hb : ∀ x y, byteX (f x y)) (hD : Half D) (ha : area (grow D (rx : Int) (ry : Int) (rx : Int) (ry : Int)) ≤ 5000) (hx : rx ≤ 255) (hy : ry ≤ 255) (hdx : -33554432 ≤ dx ∧ dx ≤ 33554432) (hdy : -33554432 ≤ dy ∧ dy ≤ 33554432) :
    Calls Try.prog 27 #[.agg #[.int .i64 B.x0, .int .i64 B.y0, .int .i64 B.x1, .int .i64 B.y1, .slice ao n m], .agg #[.int .i64 D.x0, .int .i64 D.y0, .int .i64 D.x1, .int .i64 D.y1], .int .i64 dx, .int .i64 dy, .int .i64 (rx : Int), .int .i64 (ry : Int), .agg #[.int .u8 0, .int .u8 0, .int .u8 0, .int .u8 0]] w fun e w' => RetB w.heap.size w' e (orN D) (img (orN D) (shadX B f dx dy rx ry noX)) ∧ Below w.heap.size w w' := shadow_any B ao n m g off f D dx dy rx ry noX w hn hB hV hb hD ha hx hy hdx hdy byte_no
theorem same_two (Q : R) (ao : Option Addr) (n c b off : Nat) (ao' : Option Addr) (n' c' b' off' : Nat) (l : List X) (w : World) (e : n' = n) (h : Vx w ao n c b off l) (h' : Vx w ao' n' c' b' off' l) :
    Calls Try.prog 17 #[.agg #[.int .i64 Q.x0, .int .i64 Q.y0, .int .i64 Q.x1, .int .i64 Q.y1, .slice ao n c], .agg #[.int .i64 Q.x0, .int .i64 Q.y0, .int .i64 Q.x1, .int .i64 Q.y1, .slice ao' n' c']] w fun e w' => e = .returned (.bool true) ∧ Below w.heap.size w w' := by
  subst e
  exact same_yes Q ao n' c b off ao' c' b' off' l w h h'

set_option maxRecDepth 100000 in
set_option maxHeartbeats 8000000 in
theorem walk (B : R) (ao : Option Addr) (n m g off : Nat) (l : List X) (D : R) (dx dy r : Int) (p : X) (W : World) (h : Vx W ao n m g off l) (hp : ∀ p, p ∈ l → byteX p) (hpx : byteX p) :
    Calls Try.prog 7 #[.agg #[.int .i64 B.x0, .int .i64 B.y0, .int .i64 B.x1, .int .i64 B.y1, .slice ao n m], .agg #[.int .i64 D.x0, .int .i64 D.y0, .int .i64 D.x1, .int .i64 D.y1], .int .i64 dx, .int .i64 dy, .int .i64 r, .agg #[.int .u8 p.c0, .int .u8 p.c1, .int .u8 p.c2, .int .u8 p.c3]] W fun e w' => e = .returned (.bool true) ∧ Below W.heap.size W w' := by
  have hn := vx_small h
  have HV := hid h
  have HX : Hid (Kr W B ao n m D p ((((W.alloc (.cells #[.int .i64 B.x0, .int .i64 B.y0, .int .i64 B.x1, .int .i64 B.y1, .slice ao n m] 26)).alloc (.cells #[.int .i64 D.x0, .int .i64 D.y0, .int .i64 D.x1, .int .i64 D.y1] 23)).alloc (.cells #[.int .u8 p.c0, .int .u8 p.c1, .int .u8 p.c2, .int .u8 p.c3] 28)))) := kr_new W B ao n m D p
  obtain ⟨b0, b1, b2, b3, b4, bf⟩ := HX.out.b
  obtain ⟨d0, d1, d2, d3, df⟩ := HX.out.d
  obtain ⟨x0, x1, x2, x3, xf⟩ := HX.out.x
  rcases h1 : rightT B n l with _ | _
  · have HR := hid (And.intro h1 (And.intro trivial (And.intro trivial (And.intro trivial (trivial)))))
    clear h1 h hp hpx
    go_enter Try.func7, Try.ntmps7
    go_wp2_with (first
      | (go_at_call 9; with_reducible refine Calls.mono (awake_any _) ?_; rintro e wc ⟨rfl, hb⟩; replace HX := hid (HX.out.below hb); clear hb; clear b0 b1 b2 b3 b4 bf d0 d1 d2 d3 df x0 x1 x2 x3 xf; obtain ⟨b0, b1, b2, b3, b4, bf⟩ := HX.out.b; obtain ⟨d0, d1, d2, d3, df⟩ := HX.out.d; obtain ⟨x0, x1, x2, x3, xf⟩ := HX.out.x)
      | (go_at_call 10; with_reducible refine Calls.mono (right10_any B ao n m g off _ _ (HV.out.below HX.out.low)) ?_; rintro e wc ⟨rfl, hb⟩; rw [HR.out.1]; replace HX := hid (HX.out.below hb); clear hb; clear b0 b1 b2 b3 b4 bf d0 d1 d2 d3 df x0 x1 x2 x3 xf; obtain ⟨b0, b1, b2, b3, b4, bf⟩ := HX.out.b; obtain ⟨d0, d1, d2, d3, df⟩ := HX.out.d; obtain ⟨x0, x1, x2, x3, xf⟩ := HX.out.x)
      | (go_at_call 26; with_reducible refine Calls.mono (refFine_any D r r 900 _) ?_; rintro e wc ⟨rfl, hb⟩; rw [HR.out.2.1]; replace HX := hid (HX.out.below hb); clear hb; clear b0 b1 b2 b3 b4 bf d0 d1 d2 d3 df x0 x1 x2 x3 xf; obtain ⟨b0, b1, b2, b3, b4, bf⟩ := HX.out.b; obtain ⟨d0, d1, d2, d3, df⟩ := HX.out.d; obtain ⟨x0, x1, x2, x3, xf⟩ := HX.out.x)
      | (go_at_call 13; with_reducible refine Calls.mono (nearM_any dx _) ?_; (fail_if_success have := D1); rintro e wc ⟨rfl, hw⟩; replace hw := hw.symm; subst hw; rw [HR.out.2.2.1]; have D1 := hid trivial)
      | (go_at_call 13; with_reducible refine Calls.mono (nearM_any dy _) ?_; rintro e wc ⟨rfl, hw⟩; replace hw := hw.symm; subst hw; rw [HR.out.2.2.2.1])
      | (go_at_call 14; with_reducible refine Calls.mono (pxRight_any p _) ?_; rintro e wc ⟨rfl, hb⟩; rw [HR.out.2.2.2.2]; replace HX := hid (HX.out.below hb); clear hb; clear b0 b1 b2 b3 b4 bf d0 d1 d2 d3 df x0 x1 x2 x3 xf; obtain ⟨b0, b1, b2, b3, b4, bf⟩ := HX.out.b; obtain ⟨d0, d1, d2, d3, df⟩ := HX.out.d; obtain ⟨x0, x1, x2, x3, xf⟩ := HX.out.x))
    go_ret
    exact ⟨rfl, HX.out.low⟩
  by_cases g1 : 10 < r
  · have HR := hid (And.intro h1 (And.intro trivial (And.intro trivial (And.intro trivial (trivial)))))
    clear h1 h hp hpx
    go_enter Try.func7, Try.ntmps7
    go_wp2_with (first
      | (go_at_call 9; with_reducible refine Calls.mono (awake_any _) ?_; rintro e wc ⟨rfl, hb⟩; replace HX := hid (HX.out.below hb); clear hb; clear b0 b1 b2 b3 b4 bf d0 d1 d2 d3 df x0 x1 x2 x3 xf; obtain ⟨b0, b1, b2, b3, b4, bf⟩ := HX.out.b; obtain ⟨d0, d1, d2, d3, df⟩ := HX.out.d; obtain ⟨x0, x1, x2, x3, xf⟩ := HX.out.x)
      | (go_at_call 10; with_reducible refine Calls.mono (right10_any B ao n m g off _ _ (HV.out.below HX.out.low)) ?_; rintro e wc ⟨rfl, hb⟩; rw [HR.out.1]; replace HX := hid (HX.out.below hb); clear hb; clear b0 b1 b2 b3 b4 bf d0 d1 d2 d3 df x0 x1 x2 x3 xf; obtain ⟨b0, b1, b2, b3, b4, bf⟩ := HX.out.b; obtain ⟨d0, d1, d2, d3, df⟩ := HX.out.d; obtain ⟨x0, x1, x2, x3, xf⟩ := HX.out.x)
      | (go_at_call 26; with_reducible refine Calls.mono (refFine_any D r r 900 _) ?_; rintro e wc ⟨rfl, hb⟩; rw [HR.out.2.1]; replace HX := hid (HX.out.below hb); clear hb; clear b0 b1 b2 b3 b4 bf d0 d1 d2 d3 df x0 x1 x2 x3 xf; obtain ⟨b0, b1, b2, b3, b4, bf⟩ := HX.out.b; obtain ⟨d0, d1, d2, d3, df⟩ := HX.out.d; obtain ⟨x0, x1, x2, x3, xf⟩ := HX.out.x)
      | (go_at_call 13; with_reducible refine Calls.mono (nearM_any dx _) ?_; (fail_if_success have := D1); rintro e wc ⟨rfl, hw⟩; replace hw := hw.symm; subst hw; rw [HR.out.2.2.1]; have D1 := hid trivial)
      | (go_at_call 13; with_reducible refine Calls.mono (nearM_any dy _) ?_; rintro e wc ⟨rfl, hw⟩; replace hw := hw.symm; subst hw; rw [HR.out.2.2.2.1])
      | (go_at_call 14; with_reducible refine Calls.mono (pxRight_any p _) ?_; rintro e wc ⟨rfl, hb⟩; rw [HR.out.2.2.2.2]; replace HX := hid (HX.out.below hb); clear hb; clear b0 b1 b2 b3 b4 bf d0 d1 d2 d3 df x0 x1 x2 x3 xf; obtain ⟨b0, b1, b2, b3, b4, bf⟩ := HX.out.b; obtain ⟨d0, d1, d2, d3, df⟩ := HX.out.d; obtain ⟨x0, x1, x2, x3, xf⟩ := HX.out.x))
    go_ret
    exact ⟨rfl, HX.out.low⟩
  rcases h2 : fineF D r r 900 with _ | _
  · have HR := hid (And.intro h1 (And.intro h2 (And.intro trivial (And.intro trivial (trivial)))))
    clear h1 h2 h hp hpx
    go_enter Try.func7, Try.ntmps7
    go_wp2_with (first
      | (go_at_call 9; with_reducible refine Calls.mono (awake_any _) ?_; rintro e wc ⟨rfl, hb⟩; replace HX := hid (HX.out.below hb); clear hb; clear b0 b1 b2 b3 b4 bf d0 d1 d2 d3 df x0 x1 x2 x3 xf; obtain ⟨b0, b1, b2, b3, b4, bf⟩ := HX.out.b; obtain ⟨d0, d1, d2, d3, df⟩ := HX.out.d; obtain ⟨x0, x1, x2, x3, xf⟩ := HX.out.x)
      | (go_at_call 10; with_reducible refine Calls.mono (right10_any B ao n m g off _ _ (HV.out.below HX.out.low)) ?_; rintro e wc ⟨rfl, hb⟩; rw [HR.out.1]; replace HX := hid (HX.out.below hb); clear hb; clear b0 b1 b2 b3 b4 bf d0 d1 d2 d3 df x0 x1 x2 x3 xf; obtain ⟨b0, b1, b2, b3, b4, bf⟩ := HX.out.b; obtain ⟨d0, d1, d2, d3, df⟩ := HX.out.d; obtain ⟨x0, x1, x2, x3, xf⟩ := HX.out.x)
      | (go_at_call 26; with_reducible refine Calls.mono (refFine_any D r r 900 _) ?_; rintro e wc ⟨rfl, hb⟩; rw [HR.out.2.1]; replace HX := hid (HX.out.below hb); clear hb; clear b0 b1 b2 b3 b4 bf d0 d1 d2 d3 df x0 x1 x2 x3 xf; obtain ⟨b0, b1, b2, b3, b4, bf⟩ := HX.out.b; obtain ⟨d0, d1, d2, d3, df⟩ := HX.out.d; obtain ⟨x0, x1, x2, x3, xf⟩ := HX.out.x)
      | (go_at_call 13; with_reducible refine Calls.mono (nearM_any dx _) ?_; (fail_if_success have := D1); rintro e wc ⟨rfl, hw⟩; replace hw := hw.symm; subst hw; rw [HR.out.2.2.1]; have D1 := hid trivial)
      | (go_at_call 13; with_reducible refine Calls.mono (nearM_any dy _) ?_; rintro e wc ⟨rfl, hw⟩; replace hw := hw.symm; subst hw; rw [HR.out.2.2.2.1])
      | (go_at_call 14; with_reducible refine Calls.mono (pxRight_any p _) ?_; rintro e wc ⟨rfl, hb⟩; rw [HR.out.2.2.2.2]; replace HX := hid (HX.out.below hb); clear hb; clear b0 b1 b2 b3 b4 bf d0 d1 d2 d3 df x0 x1 x2 x3 xf; obtain ⟨b0, b1, b2, b3, b4, bf⟩ := HX.out.b; obtain ⟨d0, d1, d2, d3, df⟩ := HX.out.d; obtain ⟨x0, x1, x2, x3, xf⟩ := HX.out.x))
    go_ret
    exact ⟨rfl, HX.out.low⟩
  rcases h3 : nearM dx with _ | _
  · have HR := hid (And.intro h1 (And.intro h2 (And.intro h3 (And.intro trivial (trivial)))))
    clear h1 h2 h3 h hp hpx
    go_enter Try.func7, Try.ntmps7
    go_wp2_with (first
      | (go_at_call 9; with_reducible refine Calls.mono (awake_any _) ?_; rintro e wc ⟨rfl, hb⟩; replace HX := hid (HX.out.below hb); clear hb; clear b0 b1 b2 b3 b4 bf d0 d1 d2 d3 df x0 x1 x2 x3 xf; obtain ⟨b0, b1, b2, b3, b4, bf⟩ := HX.out.b; obtain ⟨d0, d1, d2, d3, df⟩ := HX.out.d; obtain ⟨x0, x1, x2, x3, xf⟩ := HX.out.x)
      | (go_at_call 10; with_reducible refine Calls.mono (right10_any B ao n m g off _ _ (HV.out.below HX.out.low)) ?_; rintro e wc ⟨rfl, hb⟩; rw [HR.out.1]; replace HX := hid (HX.out.below hb); clear hb; clear b0 b1 b2 b3 b4 bf d0 d1 d2 d3 df x0 x1 x2 x3 xf; obtain ⟨b0, b1, b2, b3, b4, bf⟩ := HX.out.b; obtain ⟨d0, d1, d2, d3, df⟩ := HX.out.d; obtain ⟨x0, x1, x2, x3, xf⟩ := HX.out.x)
      | (go_at_call 26; with_reducible refine Calls.mono (refFine_any D r r 900 _) ?_; rintro e wc ⟨rfl, hb⟩; rw [HR.out.2.1]; replace HX := hid (HX.out.below hb); clear hb; clear b0 b1 b2 b3 b4 bf d0 d1 d2 d3 df x0 x1 x2 x3 xf; obtain ⟨b0, b1, b2, b3, b4, bf⟩ := HX.out.b; obtain ⟨d0, d1, d2, d3, df⟩ := HX.out.d; obtain ⟨x0, x1, x2, x3, xf⟩ := HX.out.x)
      | (go_at_call 13; with_reducible refine Calls.mono (nearM_any dx _) ?_; (fail_if_success have := D1); rintro e wc ⟨rfl, hw⟩; replace hw := hw.symm; subst hw; rw [HR.out.2.2.1]; have D1 := hid trivial)
      | (go_at_call 13; with_reducible refine Calls.mono (nearM_any dy _) ?_; rintro e wc ⟨rfl, hw⟩; replace hw := hw.symm; subst hw; rw [HR.out.2.2.2.1])
      | (go_at_call 14; with_reducible refine Calls.mono (pxRight_any p _) ?_; rintro e wc ⟨rfl, hb⟩; rw [HR.out.2.2.2.2]; replace HX := hid (HX.out.below hb); clear hb; clear b0 b1 b2 b3 b4 bf d0 d1 d2 d3 df x0 x1 x2 x3 xf; obtain ⟨b0, b1, b2, b3, b4, bf⟩ := HX.out.b; obtain ⟨d0, d1, d2, d3, df⟩ := HX.out.d; obtain ⟨x0, x1, x2, x3, xf⟩ := HX.out.x))
    go_ret
    exact ⟨rfl, HX.out.low⟩
  rcases h4 : nearM dy with _ | _
  · have HR := hid (And.intro h1 (And.intro h2 (And.intro h3 (And.intro h4 (trivial)))))
    clear h1 h2 h3 h4 h hp hpx
    go_enter Try.func7, Try.ntmps7
    go_wp2_with (first
      | (go_at_call 9; with_reducible refine Calls.mono (awake_any _) ?_; rintro e wc ⟨rfl, hb⟩; replace HX := hid (HX.out.below hb); clear hb; clear b0 b1 b2 b3 b4 bf d0 d1 d2 d3 df x0 x1 x2 x3 xf; obtain ⟨b0, b1, b2, b3, b4, bf⟩ := HX.out.b; obtain ⟨d0, d1, d2, d3, df⟩ := HX.out.d; obtain ⟨x0, x1, x2, x3, xf⟩ := HX.out.x)
      | (go_at_call 10; with_reducible refine Calls.mono (right10_any B ao n m g off _ _ (HV.out.below HX.out.low)) ?_; rintro e wc ⟨rfl, hb⟩; rw [HR.out.1]; replace HX := hid (HX.out.below hb); clear hb; clear b0 b1 b2 b3 b4 bf d0 d1 d2 d3 df x0 x1 x2 x3 xf; obtain ⟨b0, b1, b2, b3, b4, bf⟩ := HX.out.b; obtain ⟨d0, d1, d2, d3, df⟩ := HX.out.d; obtain ⟨x0, x1, x2, x3, xf⟩ := HX.out.x)
      | (go_at_call 26; with_reducible refine Calls.mono (refFine_any D r r 900 _) ?_; rintro e wc ⟨rfl, hb⟩; rw [HR.out.2.1]; replace HX := hid (HX.out.below hb); clear hb; clear b0 b1 b2 b3 b4 bf d0 d1 d2 d3 df x0 x1 x2 x3 xf; obtain ⟨b0, b1, b2, b3, b4, bf⟩ := HX.out.b; obtain ⟨d0, d1, d2, d3, df⟩ := HX.out.d; obtain ⟨x0, x1, x2, x3, xf⟩ := HX.out.x)
      | (go_at_call 13; with_reducible refine Calls.mono (nearM_any dx _) ?_; (fail_if_success have := D1); rintro e wc ⟨rfl, hw⟩; replace hw := hw.symm; subst hw; rw [HR.out.2.2.1]; have D1 := hid trivial)
      | (go_at_call 13; with_reducible refine Calls.mono (nearM_any dy _) ?_; rintro e wc ⟨rfl, hw⟩; replace hw := hw.symm; subst hw; rw [HR.out.2.2.2.1])
      | (go_at_call 14; with_reducible refine Calls.mono (pxRight_any p _) ?_; rintro e wc ⟨rfl, hb⟩; rw [HR.out.2.2.2.2]; replace HX := hid (HX.out.below hb); clear hb; clear b0 b1 b2 b3 b4 bf d0 d1 d2 d3 df x0 x1 x2 x3 xf; obtain ⟨b0, b1, b2, b3, b4, bf⟩ := HX.out.b; obtain ⟨d0, d1, d2, d3, df⟩ := HX.out.d; obtain ⟨x0, x1, x2, x3, xf⟩ := HX.out.x))
    go_ret
    exact ⟨rfl, HX.out.low⟩
  rcases h5 : rgtB p with _ | _
  · have HR := hid (And.intro h1 (And.intro h2 (And.intro h3 (And.intro h4 (h5)))))
    clear h1 h2 h3 h4 h5 h hp hpx
    go_enter Try.func7, Try.ntmps7
    go_wp2_with (first
      | (go_at_call 9; with_reducible refine Calls.mono (awake_any _) ?_; rintro e wc ⟨rfl, hb⟩; replace HX := hid (HX.out.below hb); clear hb; clear b0 b1 b2 b3 b4 bf d0 d1 d2 d3 df x0 x1 x2 x3 xf; obtain ⟨b0, b1, b2, b3, b4, bf⟩ := HX.out.b; obtain ⟨d0, d1, d2, d3, df⟩ := HX.out.d; obtain ⟨x0, x1, x2, x3, xf⟩ := HX.out.x)
      | (go_at_call 10; with_reducible refine Calls.mono (right10_any B ao n m g off _ _ (HV.out.below HX.out.low)) ?_; rintro e wc ⟨rfl, hb⟩; rw [HR.out.1]; replace HX := hid (HX.out.below hb); clear hb; clear b0 b1 b2 b3 b4 bf d0 d1 d2 d3 df x0 x1 x2 x3 xf; obtain ⟨b0, b1, b2, b3, b4, bf⟩ := HX.out.b; obtain ⟨d0, d1, d2, d3, df⟩ := HX.out.d; obtain ⟨x0, x1, x2, x3, xf⟩ := HX.out.x)
      | (go_at_call 26; with_reducible refine Calls.mono (refFine_any D r r 900 _) ?_; rintro e wc ⟨rfl, hb⟩; rw [HR.out.2.1]; replace HX := hid (HX.out.below hb); clear hb; clear b0 b1 b2 b3 b4 bf d0 d1 d2 d3 df x0 x1 x2 x3 xf; obtain ⟨b0, b1, b2, b3, b4, bf⟩ := HX.out.b; obtain ⟨d0, d1, d2, d3, df⟩ := HX.out.d; obtain ⟨x0, x1, x2, x3, xf⟩ := HX.out.x)
      | (go_at_call 13; with_reducible refine Calls.mono (nearM_any dx _) ?_; (fail_if_success have := D1); rintro e wc ⟨rfl, hw⟩; replace hw := hw.symm; subst hw; rw [HR.out.2.2.1]; have D1 := hid trivial)
      | (go_at_call 13; with_reducible refine Calls.mono (nearM_any dy _) ?_; rintro e wc ⟨rfl, hw⟩; replace hw := hw.symm; subst hw; rw [HR.out.2.2.2.1])
      | (go_at_call 14; with_reducible refine Calls.mono (pxRight_any p _) ?_; rintro e wc ⟨rfl, hb⟩; rw [HR.out.2.2.2.2]; replace HX := hid (HX.out.below hb); clear hb; clear b0 b1 b2 b3 b4 bf d0 d1 d2 d3 df x0 x1 x2 x3 xf; obtain ⟨b0, b1, b2, b3, b4, bf⟩ := HX.out.b; obtain ⟨d0, d1, d2, d3, df⟩ := HX.out.d; obtain ⟨x0, x1, x2, x3, xf⟩ := HX.out.x))
    go_ret
    exact ⟨rfl, HX.out.low⟩
  have HR := hid (And.intro h1 (And.intro h2 (And.intro h3 (And.intro h4 (h5)))))
  have HG := gd_of h hp h1
  have HFB := fine_box h2
  have hdx : -33554432 ≤ dx ∧ dx ≤ 33554432 := by have := of_decide_eq_true h3; omega
  have hdy : -33554432 ≤ dy ∧ dy ≤ 33554432 := by have := of_decide_eq_true h4; omega
  obtain ⟨k, rfl⟩ := Int.eq_ofNat_of_zero_le HFB.1.1
  obtain ⟨f, hf⟩ : ∃ f, f = unimg B l := ⟨_, rfl⟩
  have e1 := HG.im
  rw [← hf] at e1
  have HU : Hid (n ≤ 5000 ∧ bufB B n = true ∧ (∀ x y, byteX (f x y)) ∧ Half D ∧ area (grow D (k : Int) (k : Int) (k : Int) (k : Int)) ≤ 5000 ∧ k ≤ 255 ∧ (-33554432 ≤ dx ∧ dx ≤ 33554432) ∧ (-33554432 ≤ dy ∧ dy ≤ 33554432) ∧ byteX p) := hid ⟨by have := HG.n3; omega, HG.buf, by rw [hf]; exact HG.byt, HFB.2.1, by have := HFB.2.2; omega, by have := HFB.1; omega, hdx, hdy, hpx⟩
  have HRG : Hid (∀ x y, rgtB (shadX B f dx dy k k p x y) = true) := hid (fun x y => shad_right (by rw [hf]; exact HG.byt) (by rw [hf]; exact HG.rgt) hpx (rgt_of h5) x y)
  have HDX : Hid ((-33554432 ≤ D.x0 ∧ D.x0 ≤ 33554432 ∧ -33554432 ≤ D.y0 ∧ D.y0 ≤ 33554432 ∧ -33554432 ≤ D.x1 ∧ D.x1 ≤ 33554432 ∧ -33554432 ≤ D.y1 ∧ D.y1 ≤ 33554432)) := hid (by have := HFB.2.1; unfold Half at this; omega)
  have HDD2 : Hid (Ok B) := hid HG.ok
  have HBK : Hid (img (orN D) (fun x y => atX (orN ⟨D.x0 + dx, D.y0 + dy, D.x1 + dx, D.y1 + dy⟩) (fun x y => atX B f (x - dx) (y - dy)) (x - -dx) (y - -dy)) = img (orN D) (copyG D (atX B f) 0 0 fun _ _ => noX)) := hid back_img
  have HWI : Hid (img (orN D) (shadX B f dx dy k k noX) = img (orN D) (copyG D (atX B f) 0 0 fun _ _ => noX)) := hid (win_img (by rw [hf]; exact HG.byt))
  have HHF := hid HFB.2.1
  have HWR : Hid (IntKind.i64.wrap (-dx) = -dx ∧ IntKind.i64.wrap (-dy) = -dy) := hid ⟨by rw [IntKind.wrap_i64]; omega, by rw [IntKind.wrap_i64]; omega⟩
  obtain ⟨dx0, dx1⟩ := hdx
  obtain ⟨dy0, dy1⟩ := hdy
  clear HG HFB hf h1 h2 h3 h4 h5 hp hpx
  subst e1
  clear h
  go_enter Try.func7, Try.ntmps7
  go_wp2_with (first
      | (go_at_call 9; with_reducible refine Calls.mono (awake_any _) ?_; rintro e wc ⟨rfl, hb⟩; replace HX := hid (HX.out.below hb); clear hb; clear b0 b1 b2 b3 b4 bf d0 d1 d2 d3 df x0 x1 x2 x3 xf; obtain ⟨b0, b1, b2, b3, b4, bf⟩ := HX.out.b; obtain ⟨d0, d1, d2, d3, df⟩ := HX.out.d; obtain ⟨x0, x1, x2, x3, xf⟩ := HX.out.x)
      | (go_at_call 10; with_reducible refine Calls.mono (right10_any B ao n m g off _ _ (HV.out.below HX.out.low)) ?_; rintro e wc ⟨rfl, hb⟩; rw [HR.out.1]; replace HX := hid (HX.out.below hb); clear hb; clear b0 b1 b2 b3 b4 bf d0 d1 d2 d3 df x0 x1 x2 x3 xf; obtain ⟨b0, b1, b2, b3, b4, bf⟩ := HX.out.b; obtain ⟨d0, d1, d2, d3, df⟩ := HX.out.d; obtain ⟨x0, x1, x2, x3, xf⟩ := HX.out.x)
      | (go_at_call 26; with_reducible refine Calls.mono (refFine_any D (k : Int) (k : Int) 900 _) ?_; rintro e wc ⟨rfl, hb⟩; rw [HR.out.2.1]; replace HX := hid (HX.out.below hb); clear hb; clear b0 b1 b2 b3 b4 bf d0 d1 d2 d3 df x0 x1 x2 x3 xf; obtain ⟨b0, b1, b2, b3, b4, bf⟩ := HX.out.b; obtain ⟨d0, d1, d2, d3, df⟩ := HX.out.d; obtain ⟨x0, x1, x2, x3, xf⟩ := HX.out.x)
      | (go_at_call 13; with_reducible refine Calls.mono (nearM_any dx _) ?_; (fail_if_success have := D1); rintro e wc ⟨rfl, hw⟩; replace hw := hw.symm; subst hw; rw [HR.out.2.2.1]; have D1 := hid trivial)
      | (go_at_call 13; with_reducible refine Calls.mono (nearM_any dy _) ?_; rintro e wc ⟨rfl, hw⟩; replace hw := hw.symm; subst hw; rw [HR.out.2.2.2.1])
      | (go_at_call 14; with_reducible refine Calls.mono (pxRight_any p _) ?_; rintro e wc ⟨rfl, hb⟩; rw [HR.out.2.2.2.2]; replace HX := hid (HX.out.below hb); clear hb; clear b0 b1 b2 b3 b4 bf d0 d1 d2 d3 df x0 x1 x2 x3 xf; obtain ⟨b0, b1, b2, b3, b4, bf⟩ := HX.out.b; obtain ⟨d0, d1, d2, d3, df⟩ := HX.out.d; obtain ⟨x0, x1, x2, x3, xf⟩ := HX.out.x)
      | (go_at_call 27; with_reducible refine Calls.mono (shadow_any B ao n m g off f D dx dy k k p _ HU.out.1 HU.out.2.1 (HV.out.below HX.out.low) HU.out.2.2.1 HU.out.2.2.2.1 HU.out.2.2.2.2.1 HU.out.2.2.2.2.2.1 HU.out.2.2.2.2.2.1 HU.out.2.2.2.2.2.2.1 HU.out.2.2.2.2.2.2.2.1 HU.out.2.2.2.2.2.2.2.2) ?_; rintro e wc ⟨hr, hb⟩; obtain ⟨eo, en, em, eg, eoff, rfl, hO, hg1, hg2, hln⟩ := retG hr; have HVe := hid hO.v; have HLE := hid hln; replace HX := hid (HX.out.below hb); clear hr hO hg1 hg2 hln hb; clear b0 b1 b2 b3 b4 bf d0 d1 d2 d3 df x0 x1 x2 x3 xf))
  have HL : Hid (Lm W B ao n m D p wc.heap.size eo en em eg eoff (img (orN D) (shadX B f dx dy k k p)) (wc.alloc (.cells #[.int .i64 (orN D).x0, .int .i64 (orN D).y0, .int .i64 (orN D).x1, .int .i64 (orN D).y1, .slice eo en em] 26))) := hid ⟨HX.out.below ((Below.refl _ _).alloc (Nat.le_refl _) _), Has5.new rfl _ _ _ _ _ _ _ _, HVe.out.below ((Below.refl _ _).alloc (Nat.le_refl _) _)⟩
  have hen := vx_small HVe.out
  clear HX HVe HR D1
  generalize wc.alloc (.cells #[.int .i64 (orN D).x0, .int .i64 (orN D).y0, .int .i64 (orN D).x1, .int .i64 (orN D).y1, .slice eo en em] 26) = w3 at HL ⊢
  generalize wc.heap.size = k13 at HL ⊢
  go_loopg [14] en (fun gh v14 wr => ∃ i : Nat, i ≤ en ∧ gh = en - i ∧ v14 = .int .i64 (i : Int) ∧ Lm W B ao n m D p k13 eo en em eg eoff (img (orN D) (shadX B f dx dy k k p)) wr)
  case atStart => exact ⟨0, Nat.zero_le _, rfl, rfl, HL.out⟩
  case round =>
    clear HL
    obtain ⟨i, hi, rfl, rfl, hL⟩ := hrel
    have HL := hid hL
    obtain ⟨q0, q1, q2, q3, q4, qf⟩ := hL.h
    by_cases hil : i < en
    · have hiz : (i : Int) < (en : Int) := by omega
      obtain ⟨s, hs⟩ : ∃ s, (img (orN D) (shadX B f dx dy k k p))[i]? = some s := ⟨_, List.getElem?_eq_getElem (by have := HLE.out; omega)⟩
      obtain ⟨rfl, c0, c1, c2, c3⟩ := vx_at hL.v hs
      have HT : Hid (rgtB s = true) := by
        obtain ⟨x, y, hxy⟩ := img_mem (List.mem_of_getElem? hs)
        rw [hxy]
        exact hid (HRG.out x y)
      clear hL hs
      go_wp2_with (go_at_call 14; with_reducible refine Calls.mono (pxRight_any s _) ?_; rintro e w5 ⟨rfl, hb⟩; rw [HT.out]; have HL5 := hid (HL.out.below hb); clear hb)
      go_roundg (en - (i + 1))
      case measure => omega
      case rel => exact ⟨i + 1, by omega, rfl, by simp, HL5.out⟩
    · obtain rfl : en = i := by omega
      have HX := hid hL.x
      obtain ⟨d0, d1, d2, d3, df⟩ := hL.x.d
      obtain ⟨e0, e1, e2, e3, e4, e5, e6, e7⟩ := HDX.out
      have hl1 : W.heap.size + 1 < wr.heap.size := (by have := hL.x.sz; omega)
      have HTK : Hid (Lk W B ao n m D p wr.heap.size ⟨D.x0 + dx, D.y0 + dy, D.x1 + dx, D.y1 + dy⟩ (wr.alloc (.cells #[.int .i64 (D.x0 + dx), .int .i64 (D.y0 + dy), .int .i64 (D.x1 + dx), .int .i64 (D.y1 + dy)] 23))) := hid ⟨hL.x.below ((Below.refl _ _).alloc (Nat.le_refl _) _), Rc.Has4.new rfl _ _ _ _ _, hL.x.sz⟩
      clear hL HL
      rcases hF1 : fineF ⟨D.x0 + dx, D.y0 + dy, D.x1 + dx, D.y1 + dy⟩ 0 0 400 with _ | _
      · have HF := hid hF1
        clear hF1
        go_wp2_with (go_at_call 11; with_reducible refine Calls.mono (box4 (D.x0 + dx) (D.y0 + dy) (D.x1 + dx) (D.y1 + dy) _) ?_; rintro e w5 ⟨rfl, hb⟩; rw [HF.out]; have HT5 := hid (HTK.out.below hb); clear hb)
        go_ret
        exact ⟨rfl, HT5.out.x.low⟩
      rcases hF2 : fineF D 0 0 400 with _ | _
      · have HF := hid (And.intro hF1 hF2)
        clear hF1 hF2
        go_wp2_with (first
          | (go_at_call 11; with_reducible refine Calls.mono (box4 (D.x0 + dx) (D.y0 + dy) (D.x1 + dx) (D.y1 + dy) _) ?_; rintro e w5 ⟨rfl, hb⟩; rw [HF.out.1]; have HT5 := hid (HTK.out.below hb); clear hb d0 d1 d2 d3 df; obtain ⟨d0, d1, d2, d3, df⟩ := HT5.out.x.d)
          | (go_at_call 11; with_reducible refine Calls.mono (box_law D _) ?_; rintro e w6 ⟨rfl, hb⟩; rw [HF.out.2]; have HT6 := hid (HT5.out.below hb); clear hb d0 d1 d2 d3 df))
        go_ret
        exact ⟨rfl, HT6.out.x.low⟩
      have HF := hid (And.intro hF1 hF2)
      have HDD : Hid (Ok D ∧ area D ≤ 5000) := hid ⟨(fine_area hF2).1.ok, by have := (fine_area hF2).2; omega⟩
      have HT : Hid (Ok ⟨D.x0 + dx, D.y0 + dy, D.x1 + dx, D.y1 + dy⟩ ∧ area ⟨D.x0 + dx, D.y0 + dy, D.x1 + dx, D.y1 + dy⟩ ≤ 5000 ∧ ((-4398046511104 ≤ dx ∧ dx ≤ 4398046511104) ∧ (-4398046511104 ≤ dy ∧ dy ≤ 4398046511104)) ∧ ((-4398046511104 ≤ -dx ∧ -dx ≤ 4398046511104) ∧ (-4398046511104 ≤ -dy ∧ -dy ≤ 4398046511104)) ∧ bufB (orN ⟨D.x0 + dx, D.y0 + dy, D.x1 + dx, D.y1 + dy⟩) (wid (orN ⟨D.x0 + dx, D.y0 + dy, D.x1 + dx, D.y1 + dy⟩) * hei (orN ⟨D.x0 + dx, D.y0 + dy, D.x1 + dx, D.y1 + dy⟩)) = true ∧ wid (orN ⟨D.x0 + dx, D.y0 + dy, D.x1 + dx, D.y1 + dy⟩) * hei (orN ⟨D.x0 + dx, D.y0 + dy, D.x1 + dx, D.y1 + dy⟩) ≤ 5000) := by
        have a1 := (fine_area hF1).1.ok
        have a2 : area ⟨D.x0 + dx, D.y0 + dy, D.x1 + dx, D.y1 + dy⟩ ≤ 5000 := by have := (fine_area hF1).2; omega
        exact hid ⟨a1, a2, ⟨⟨by omega, by omega⟩, by omega, by omega⟩, ⟨⟨by omega, by omega⟩, by omega, by omega⟩, (buf_new a1 a2).1, (buf_new a1 a2).2.1⟩
      clear hF1 hF2
      go_upto_region 12 with (first
          | (go_at_call 11; with_reducible refine Calls.mono (box4 (D.x0 + dx) (D.y0 + dy) (D.x1 + dx) (D.y1 + dy) _) ?_; rintro e w5 ⟨rfl, hb⟩; rw [HF.out.1]; have HT5 := hid (HTK.out.below hb); clear hb d0 d1 d2 d3 df; obtain ⟨d0, d1, d2, d3, df⟩ := HT5.out.x.d)
          | (go_at_call 11; with_reducible refine Calls.mono (box_law D _) ?_; rintro e w6 ⟨rfl, hb⟩; rw [HF.out.2]; have HY := hid (HT5.out.below hb); clear hb d0 d1 d2 d3 df HT5))
      generalize wr.heap.size = k15 at HY ⊢
      clear HTK HX hl1 q0 q1 q2 q3 q4 qf
      go_cut [16] (fun v16 wx => ∃ k16 qo qn qm qg qoff, v16 = .pointer (some ⟨k16, 0, none⟩) ∧ Kr W B ao n m D p wx ∧ Has5 wx k16 (orN D) qo qn qm ∧ Vx wx qo qn qm qg qoff (img (orN D) (copyG D (atX B f) 0 0 fun _ _ => noX)) ∧ (img (orN D) (copyG D (atX B f) 0 0 fun _ _ => noX)).length = qn ∧ W.heap.size + 1 + 1 + 1 ≤ k16)
      case first =>
        replace HY := hid (HY.out.below (Below.refl _ _).drew)
        refine wp_region_held_drew (S := (fun w' => w'.cell? ⟨W.heap.size, 0, none⟩ = some (.int .i64 B.x0) ∧ w'.cell? ⟨W.heap.size, 1, none⟩ = some (.int .i64 B.y0) ∧ w'.cell? ⟨W.heap.size, 2, none⟩ = some (.int .i64 B.x1) ∧ w'.cell? ⟨W.heap.size, 3, none⟩ = some (.int .i64 B.y1) ∧ w'.cell? ⟨W.heap.size, 4, none⟩ = some (.slice ao n m) ∧ w'.cell? ⟨(W.heap.size + 1), 0, none⟩ = some (.int .i64 D.x0) ∧ w'.cell? ⟨(W.heap.size + 1), 1, none⟩ = some (.int .i64 D.y0) ∧ w'.cell? ⟨(W.heap.size + 1), 2, none⟩ = some (.int .i64 D.x1) ∧ w'.cell? ⟨(W.heap.size + 1), 3, none⟩ = some (.int .i64 D.y1) ∧ w'.cell? ⟨k15, 0, none⟩ = some (.int .i64 (D.x0 + dx)) ∧ w'.cell? ⟨k15, 1, none⟩ = some (.int .i64 (D.y0 + dy)) ∧ w'.cell? ⟨k15, 2, none⟩ = some (.int .i64 (D.x1 + dx)) ∧ w'.cell? ⟨k15, 3, none⟩ = some (.int .i64 (D.y1 + dy)))) (by kernel_rfl) ?_ (fun hHeld => ?_)
        · exact ⟨HY.out.x.b.c0, HY.out.x.b.c1, HY.out.x.b.c2, HY.out.x.b.c3, HY.out.x.b.c4, HY.out.x.d.c0, HY.out.x.d.c1, HY.out.x.d.c2, HY.out.x.d.c3, HY.out.a.c0, HY.out.a.c1, HY.out.a.c2, HY.out.a.c3⟩
        generalize w6.drew = wd at HY hHeld ⊢
        refine wpAnyH_take (i := 0) (oi := { dst := some 98, op := Op.load 26 (Operand.tmp 6), type := 26, pos := "law.go:106", after := #[], guard := none }) (v := ?_) rfl (by kernel_rfl) (by kernel_rfl) (by kernel_rfl) (fun _ _ _ h => h) (Or.inl ⟨by rfl, ?hy⟩) (by assumption) ?_
        case hy => (intro w hSw; (try dsimp only at hSw); go_simp; first | done | with_reducible rfl)
        try simp only [Act.put, List.setIfInBounds_toArray, List.set_cons_zero, List.set_cons_succ]
        refine wpAnyH_take (i := 1) (oi := { dst := some 99, op := Op.load 23 (Operand.tmp 15), type := 23, pos := "law.go:106", after := #[], guard := none }) (v := ?_) rfl (by kernel_rfl) (by kernel_rfl) (by kernel_rfl) (fun _ _ _ h => h) (Or.inl ⟨by rfl, ?hy⟩) (by assumption) ?_
        case hy => (intro w hSw; (try dsimp only at hSw); go_simp; first | done | with_reducible rfl)
        try simp only [Act.put, List.setIfInBounds_toArray, List.set_cons_zero, List.set_cons_succ]
        refine wpAnyH_take (i := 2) (oi := { dst := some 100, op := Op.move (Operand.tmp 2), type := 3, pos := "law.go:106", after := #[], guard := none }) (v := ?_) rfl (by kernel_rfl) (by kernel_rfl) (by kernel_rfl) (fun _ _ _ h => h) (Or.inl ⟨by rfl, ?hy⟩) (by assumption) ?_
        case hy => (intro w hSw; (try dsimp only at hSw); go_simp; first | done | with_reducible rfl)
        try simp only [Act.put, List.setIfInBounds_toArray, List.set_cons_zero, List.set_cons_succ]
        refine wpAnyH_take (i := 3) (oi := { dst := some 101, op := Op.move (Operand.tmp 3), type := 3, pos := "law.go:106", after := #[], guard := none }) (v := ?_) rfl (by kernel_rfl) (by kernel_rfl) (by kernel_rfl) (fun _ _ _ h => h) (Or.inl ⟨by rfl, ?hy⟩) (by assumption) ?_
        case hy => (intro w hSw; (try dsimp only at hSw); go_simp; first | done | with_reducible rfl)
        try simp only [Act.put, List.setIfInBounds_toArray, List.set_cons_zero, List.set_cons_succ]
        refine wpAnyH_take (i := 5) (oi := { dst := some 103, op := Op.load 23 (Operand.tmp 7), type := 23, pos := "law.go:106", after := #[], guard := none }) (v := ?_) rfl (by kernel_rfl) (by kernel_rfl) (by kernel_rfl) (fun _ _ _ h => h) (Or.inl ⟨by rfl, ?hy⟩) (by assumption) ?_
        case hy => (intro w hSw; (try dsimp only at hSw); go_simp; first | done | with_reducible rfl)
        try simp only [Act.put, List.setIfInBounds_toArray, List.set_cons_zero, List.set_cons_succ]
        refine wpAnyH_take (i := 6) (oi := { dst := some 104, op := Op.move (Operand.tmp 2), type := 3, pos := "law.go:106", after := #[], guard := none }) (v := ?_) rfl (by kernel_rfl) (by kernel_rfl) (by kernel_rfl) (fun _ _ _ h => h) (Or.inl ⟨by rfl, ?hy⟩) (by assumption) ?_
        case hy => (intro w hSw; (try dsimp only at hSw); go_simp; first | done | with_reducible rfl)
        try simp only [Act.put, List.setIfInBounds_toArray, List.set_cons_zero, List.set_cons_succ]
        refine wpAnyH_take (i := 7) (oi := { dst := some 105, op := Op.unOp UnOp.neg 3 (Operand.tmp 104), type := 3, pos := "law.go:106", after := #[{ on := 6, ground := Ground.data }], guard := none }) (v := ?_) rfl (by kernel_rfl) (by kernel_rfl) (by kernel_rfl) (fun _ _ _ h => h) (Or.inl ⟨by rfl, ?hy⟩) (by assumption) ?_
        case hy => (intro w hSw; (try dsimp only at hSw); go_simp; first | done | with_reducible rfl)
        try simp only [Act.put, List.setIfInBounds_toArray, List.set_cons_zero, List.set_cons_succ]
        refine wpAnyH_take (i := 8) (oi := { dst := some 106, op := Op.move (Operand.tmp 3), type := 3, pos := "law.go:106", after := #[], guard := none }) (v := ?_) rfl (by kernel_rfl) (by kernel_rfl) (by kernel_rfl) (fun _ _ _ h => h) (Or.inl ⟨by rfl, ?hy⟩) (by assumption) ?_
        case hy => (intro w hSw; (try dsimp only at hSw); go_simp; first | done | with_reducible rfl)
        try simp only [Act.put, List.setIfInBounds_toArray, List.set_cons_zero, List.set_cons_succ]
        refine wpAnyH_take (i := 9) (oi := { dst := some 107, op := Op.unOp UnOp.neg 3 (Operand.tmp 106), type := 3, pos := "law.go:106", after := #[{ on := 8, ground := Ground.data }], guard := none }) (v := ?_) rfl (by kernel_rfl) (by kernel_rfl) (by kernel_rfl) (fun _ _ _ h => h) (Or.inl ⟨by rfl, ?hy⟩) (by assumption) ?_
        case hy => (intro w hSw; (try dsimp only at hSw); go_simp; first | done | with_reducible rfl)
        try simp only [Act.put, List.setIfInBounds_toArray, List.set_cons_zero, List.set_cons_succ]
        refine wpAnyH_ready (rs := [4, 11]) (by kernel_rfl) (by simp) ?_
        refine AllReadyH.cons (o := { dst := some 102, op := Op.call { callee := Callee.value (Operand.func 20), args := #[Operand.tmp 98, Operand.tmp 99, Operand.tmp 100, Operand.tmp 101], argTypes := #[26, 23, 3, 3] }, type := 26, pos := "law.go:106", after := #[{ on := 0, ground := Ground.data }, { on := 1, ground := Ground.data }, { on := 2, ground := Ground.data }, { on := 3, ground := Ground.data }], guard := none }) rfl (fun K hK => ?_) (AllReadyH.cons (o := { dst := some 16, op := Op.alloc 26, type := 0, pos := "law.go:106", after := #[], guard := none }) rfl (fun K hK => ?_) AllReadyH.nil)
        · go_simp
          (go_at_call 20; with_reducible refine Calls.mono (offset_any B ao n m g off f ⟨D.x0 + dx, D.y0 + dy, D.x1 + dx, D.y1 + dy⟩ dx dy _ HU.out.1 HU.out.2.1 (HV.out.below HY.out.x.low) HT.out.1 HT.out.2.1 HT.out.2.2.1.1 HT.out.2.2.1.2) ?_; rintro e wc ⟨hr, hb⟩; obtain ⟨co, cn, cm, cg, coff, rfl, hO, hg1, hg2, hln⟩ := retG hr; rw [img_len] at hln; have HVc := hid hO.v; have HLc : Hid (bufB (orN ⟨D.x0 + dx, D.y0 + dy, D.x1 + dx, D.y1 + dy⟩) cn = true ∧ cn ≤ 5000) := (by rw [← hln]; exact hid HT.out.2.2.2.2); (try (replace HA := hid (And.intro HA.out.1 (And.intro (HA.out.2.1.below hb) HA.out.2.2)); clear y0 y1 y2 y3 y4 yf; obtain ⟨y0, y1, y2, y3, y4, yf⟩ := HA.out.2.1)); replace HY := hid (HY.out.below hb); clear hr hO hg1 hg2 hln hb)
          go_wp2_with fail
          refine hK.out _ _ ?_ (fun hHeld => ?_)
          · exact ⟨HY.out.x.b.c0, HY.out.x.b.c1, HY.out.x.b.c2, HY.out.x.b.c3, HY.out.x.b.c4, HY.out.x.d.c0, HY.out.x.d.c1, HY.out.x.d.c2, HY.out.x.d.c3, HY.out.a.c0, HY.out.a.c1, HY.out.a.c2, HY.out.a.c3⟩
          clear hK K
          try simp only [Act.put, List.setIfInBounds_toArray, List.set_cons_zero, List.set_cons_succ]
          refine wpAnyH_ready (rs := [10, 11]) (by kernel_rfl) (by simp) ?_
          refine AllReadyH.cons (o := { dst := some 108, op := Op.call { callee := Callee.value (Operand.func 20), args := #[Operand.tmp 102, Operand.tmp 103, Operand.tmp 105, Operand.tmp 107], argTypes := #[26, 23, 3, 3] }, type := 26, pos := "law.go:106", after := #[{ on := 4, ground := Ground.data }, { on := 5, ground := Ground.data }, { on := 7, ground := Ground.data }, { on := 9, ground := Ground.data }, { on := 4, ground := Ground.chain }], guard := none }) rfl (fun K hK => ?_) (AllReadyH.cons (o := { dst := some 16, op := Op.alloc 26, type := 0, pos := "law.go:106", after := #[], guard := none }) rfl (fun K hK => ?_) AllReadyH.nil)
          · go_simp
            (go_at_call 20; rw [HWR.out.1, HWR.out.2]; with_reducible refine Calls.mono (offset_any (orN ⟨D.x0 + dx, D.y0 + dy, D.x1 + dx, D.y1 + dy⟩) co cn cm cg coff (fun x y => atX B f (x - dx) (y - dy)) D (-dx) (-dy) _ HLc.out.2 HLc.out.1 HVc.out HDD.out.1 HDD.out.2 HT.out.2.2.2.1.1 HT.out.2.2.2.1.2) ?_; rintro e wc ⟨hr, hb⟩; rw [HBK.out] at hr; obtain ⟨qo, qn, qm, qg, qoff, rfl, hO, hg1, hg2, hln⟩ := retG hr; have HE := hid (And.intro hO hg2); have HLQ := hid hln; (try (have HNE := hid (fun (_ : 0 < qm) => ne_pre HA.out.2.1 hg1))); (try (replace HA := hid (And.intro HA.out.1 (And.intro (HA.out.2.1.below hb) HA.out.2.2)); clear y0 y1 y2 y3 y4 yf; obtain ⟨y0, y1, y2, y3, y4, yf⟩ := HA.out.2.1)); replace HY := hid (HY.out.below hb); clear hr hO hg1 hg2 hln hb)
            go_wp2_with fail
            refine hK.out _ _ ?_ (fun hHeld => ?_)
            · exact ⟨HY.out.x.b.c0, HY.out.x.b.c1, HY.out.x.b.c2, HY.out.x.b.c3, HY.out.x.b.c4, HY.out.x.d.c0, HY.out.x.d.c1, HY.out.x.d.c2, HY.out.x.d.c3, HY.out.a.c0, HY.out.a.c1, HY.out.a.c2, HY.out.a.c3⟩
            clear hK K
            try simp only [Act.put, List.setIfInBounds_toArray, List.set_cons_zero, List.set_cons_succ]
            refine wpAnyH_ready (rs := [11]) (by kernel_rfl) (by simp) ?_
            refine AllReadyH.cons (o := { dst := some 16, op := Op.alloc 26, type := 0, pos := "law.go:106", after := #[], guard := none }) rfl (fun K hK => ?_) AllReadyH.nil
            go_simp
            refine hK.out _ _ ?_ (fun hHeld => ?_)
            · have hXn := (lk_buf HY.out).1
              exact ⟨hXn.x.b.c0, hXn.x.b.c1, hXn.x.b.c2, hXn.x.b.c3, hXn.x.b.c4, hXn.x.d.c0, hXn.x.d.c1, hXn.x.d.c2, hXn.x.d.c3, hXn.a.c0, hXn.a.c1, hXn.a.c2, hXn.a.c3⟩
            clear hK K
            try simp only [Act.put, List.setIfInBounds_toArray, List.set_cons_zero, List.set_cons_succ]
            have HYp := HY
            try have HEp := HE
            have HA := hid (lk_buf HY.out).2
            replace HY := hid (lk_buf HY.out).1
            obtain ⟨y0, y1, y2, y3, y4, yf⟩ := HA.out.2.1
            try replace HVc := hid (HVc.out.below ((Below.refl _ _).alloc (Nat.le_refl _) (.cells #[.int .i64 0, .int .i64 0, .int .i64 0, .int .i64 0, .slice none 0 0] 26)))
            try (have HNE := hid (fun (h : 0 < qm) => Nat.ne_of_gt (HE.out.2 h)); replace HE := hid (And.intro (HE.out.1.below ((Below.refl _ _).alloc (Nat.le_refl _) (.cells #[.int .i64 0, .int .i64 0, .int .i64 0, .int .i64 0, .slice none 0 0] 26))) trivial))
            refine wpAnyH_ready (rs := [12]) (by kernel_rfl) (by simp) ?_
            refine AllReadyH.cons (o := { dst := none, op := Op.store 26 (Operand.tmp 16) (Operand.tmp 108), type := 0, pos := "law.go:106", after := #[{ on := 11, ground := Ground.data }, { on := 10, ground := Ground.data }, { on := 10, ground := Ground.chain }, { on := 0, ground := Ground.phase }, { on := 1, ground := Ground.phase }, { on := 2, ground := Ground.phase }, { on := 3, ground := Ground.phase }, { on := 4, ground := Ground.phase }, { on := 5, ground := Ground.phase }, { on := 6, ground := Ground.phase }, { on := 7, ground := Ground.phase }, { on := 8, ground := Ground.phase }, { on := 9, ground := Ground.phase }, { on := 10, ground := Ground.phase }, { on := 11, ground := Ground.phase }], guard := none }) rfl (fun K hK => ?_) AllReadyH.nil
            go_simp
            refine hK.out _ _ ?_ (fun hHeld => ?_)
            · first
                | (have hXn := HY.out.but (but_set5 _ _ (.int .i64 (orN D).x0) (.int .i64 (orN D).y0) (.int .i64 (orN D).x1) (.int .i64 (orN D).y1) (.slice qo qn qm)) HA.out.1 HA.out.2.2; with_reducible exact ⟨hXn.x.b.c0, hXn.x.b.c1, hXn.x.b.c2, hXn.x.b.c3, hXn.x.b.c4, hXn.x.d.c0, hXn.x.d.c1, hXn.x.d.c2, hXn.x.d.c3, hXn.a.c0, hXn.a.c1, hXn.a.c2, hXn.a.c3⟩)
                | (have hXn := HYp.out.below ((Below.refl _ _).alloc (Nat.le_refl _) (.cells #[.int .i64 (orN D).x0, .int .i64 (orN D).y0, .int .i64 (orN D).x1, .int .i64 (orN D).y1, .slice qo qn qm] 26)); with_reducible exact ⟨hXn.x.b.c0, hXn.x.b.c1, hXn.x.b.c2, hXn.x.b.c3, hXn.x.b.c4, hXn.x.d.c0, hXn.x.d.c1, hXn.x.d.c2, hXn.x.d.c3, hXn.a.c0, hXn.a.c1, hXn.a.c2, hXn.a.c3⟩)
            clear hK K
            try simp only [Act.put, List.setIfInBounds_toArray, List.set_cons_zero, List.set_cons_succ]
            refine wpAnyH_done (by kernel_rfl) ?_ _
            go_wp2_with fail
            go_meet
            case rel =>
              first
                | with_reducible exact ⟨_, qo, qn, qm, qg, qoff, rfl, (HY.out.but (but_set5 _ _ (.int .i64 (orN D).x0) (.int .i64 (orN D).y0) (.int .i64 (orN D).x1) (.int .i64 (orN D).y1) (.slice qo qn qm)) HA.out.1 HA.out.2.2).x, has5_set HA.out.2.1 (orN D).x0 (orN D).y0 (orN D).x1 (orN D).y1 qo qn qm, (HE.out.1.but (but_set5 _ _ (.int .i64 (orN D).x0) (.int .i64 (orN D).y0) (.int .i64 (orN D).x1) (.int .i64 (orN D).y1) (.slice qo qn qm)) (fun h => Ne.symm (HNE.out h))).v, HLQ.out, HA.out.1⟩
                | with_reducible exact ⟨_, qo, qn, qm, qg, qoff, rfl, (HYp.out.below ((Below.refl _ _).alloc (Nat.le_refl _) (.cells #[.int .i64 (orN D).x0, .int .i64 (orN D).y0, .int .i64 (orN D).x1, .int .i64 (orN D).y1, .slice qo qn qm] 26))).x, Has5.new rfl _ _ _ _ _ _ _ _, (HEp.out.1.below ((Below.refl _ _).alloc (Nat.le_refl _) (.cells #[.int .i64 (orN D).x0, .int .i64 (orN D).y0, .int .i64 (orN D).x1, .int .i64 (orN D).y1, .slice qo qn qm] 26))).v, HLQ.out, HYp.out.x.sz⟩
          · go_simp
            refine hK.out _ _ ?_ (fun hHeld => ?_)
            · have hXn := (lk_buf HY.out).1
              exact ⟨hXn.x.b.c0, hXn.x.b.c1, hXn.x.b.c2, hXn.x.b.c3, hXn.x.b.c4, hXn.x.d.c0, hXn.x.d.c1, hXn.x.d.c2, hXn.x.d.c3, hXn.a.c0, hXn.a.c1, hXn.a.c2, hXn.a.c3⟩
            clear hK K
            try simp only [Act.put, List.setIfInBounds_toArray, List.set_cons_zero, List.set_cons_succ]
            have HYp := HY
            try have HEp := HE
            have HA := hid (lk_buf HY.out).2
            replace HY := hid (lk_buf HY.out).1
            obtain ⟨y0, y1, y2, y3, y4, yf⟩ := HA.out.2.1
            try replace HVc := hid (HVc.out.below ((Below.refl _ _).alloc (Nat.le_refl _) (.cells #[.int .i64 0, .int .i64 0, .int .i64 0, .int .i64 0, .slice none 0 0] 26)))
            try (have HNE := hid (fun (h : 0 < qm) => Nat.ne_of_gt (HE.out.2 h)); replace HE := hid (And.intro (HE.out.1.below ((Below.refl _ _).alloc (Nat.le_refl _) (.cells #[.int .i64 0, .int .i64 0, .int .i64 0, .int .i64 0, .slice none 0 0] 26))) trivial))
            refine wpAnyH_ready (rs := [10]) (by kernel_rfl) (by simp) ?_
            refine AllReadyH.cons (o := { dst := some 108, op := Op.call { callee := Callee.value (Operand.func 20), args := #[Operand.tmp 102, Operand.tmp 103, Operand.tmp 105, Operand.tmp 107], argTypes := #[26, 23, 3, 3] }, type := 26, pos := "law.go:106", after := #[{ on := 4, ground := Ground.data }, { on := 5, ground := Ground.data }, { on := 7, ground := Ground.data }, { on := 9, ground := Ground.data }, { on := 4, ground := Ground.chain }], guard := none }) rfl (fun K hK => ?_) AllReadyH.nil
            go_simp
            (go_at_call 20; rw [HWR.out.1, HWR.out.2]; with_reducible refine Calls.mono (offset_any (orN ⟨D.x0 + dx, D.y0 + dy, D.x1 + dx, D.y1 + dy⟩) co cn cm cg coff (fun x y => atX B f (x - dx) (y - dy)) D (-dx) (-dy) _ HLc.out.2 HLc.out.1 HVc.out HDD.out.1 HDD.out.2 HT.out.2.2.2.1.1 HT.out.2.2.2.1.2) ?_; rintro e wc ⟨hr, hb⟩; rw [HBK.out] at hr; obtain ⟨qo, qn, qm, qg, qoff, rfl, hO, hg1, hg2, hln⟩ := retG hr; have HE := hid (And.intro hO hg2); have HLQ := hid hln; (try (have HNE := hid (fun (_ : 0 < qm) => ne_pre HA.out.2.1 hg1))); (try (replace HA := hid (And.intro HA.out.1 (And.intro (HA.out.2.1.below hb) HA.out.2.2)); clear y0 y1 y2 y3 y4 yf; obtain ⟨y0, y1, y2, y3, y4, yf⟩ := HA.out.2.1)); replace HY := hid (HY.out.below hb); clear hr hO hg1 hg2 hln hb)
            go_wp2_with fail
            refine hK.out _ _ ?_ (fun hHeld => ?_)
            · exact ⟨HY.out.x.b.c0, HY.out.x.b.c1, HY.out.x.b.c2, HY.out.x.b.c3, HY.out.x.b.c4, HY.out.x.d.c0, HY.out.x.d.c1, HY.out.x.d.c2, HY.out.x.d.c3, HY.out.a.c0, HY.out.a.c1, HY.out.a.c2, HY.out.a.c3⟩
            clear hK K
            try simp only [Act.put, List.setIfInBounds_toArray, List.set_cons_zero, List.set_cons_succ]
            refine wpAnyH_ready (rs := [12]) (by kernel_rfl) (by simp) ?_
            refine AllReadyH.cons (o := { dst := none, op := Op.store 26 (Operand.tmp 16) (Operand.tmp 108), type := 0, pos := "law.go:106", after := #[{ on := 11, ground := Ground.data }, { on := 10, ground := Ground.data }, { on := 10, ground := Ground.chain }, { on := 0, ground := Ground.phase }, { on := 1, ground := Ground.phase }, { on := 2, ground := Ground.phase }, { on := 3, ground := Ground.phase }, { on := 4, ground := Ground.phase }, { on := 5, ground := Ground.phase }, { on := 6, ground := Ground.phase }, { on := 7, ground := Ground.phase }, { on := 8, ground := Ground.phase }, { on := 9, ground := Ground.phase }, { on := 10, ground := Ground.phase }, { on := 11, ground := Ground.phase }], guard := none }) rfl (fun K hK => ?_) AllReadyH.nil
            go_simp
            refine hK.out _ _ ?_ (fun hHeld => ?_)
            · first
                | (have hXn := HY.out.but (but_set5 _ _ (.int .i64 (orN D).x0) (.int .i64 (orN D).y0) (.int .i64 (orN D).x1) (.int .i64 (orN D).y1) (.slice qo qn qm)) HA.out.1 HA.out.2.2; with_reducible exact ⟨hXn.x.b.c0, hXn.x.b.c1, hXn.x.b.c2, hXn.x.b.c3, hXn.x.b.c4, hXn.x.d.c0, hXn.x.d.c1, hXn.x.d.c2, hXn.x.d.c3, hXn.a.c0, hXn.a.c1, hXn.a.c2, hXn.a.c3⟩)
                | (have hXn := HYp.out.below ((Below.refl _ _).alloc (Nat.le_refl _) (.cells #[.int .i64 (orN D).x0, .int .i64 (orN D).y0, .int .i64 (orN D).x1, .int .i64 (orN D).y1, .slice qo qn qm] 26)); with_reducible exact ⟨hXn.x.b.c0, hXn.x.b.c1, hXn.x.b.c2, hXn.x.b.c3, hXn.x.b.c4, hXn.x.d.c0, hXn.x.d.c1, hXn.x.d.c2, hXn.x.d.c3, hXn.a.c0, hXn.a.c1, hXn.a.c2, hXn.a.c3⟩)
            clear hK K
            try simp only [Act.put, List.setIfInBounds_toArray, List.set_cons_zero, List.set_cons_succ]
            refine wpAnyH_done (by kernel_rfl) ?_ _
            go_wp2_with fail
            go_meet
            case rel =>
              first
                | with_reducible exact ⟨_, qo, qn, qm, qg, qoff, rfl, (HY.out.but (but_set5 _ _ (.int .i64 (orN D).x0) (.int .i64 (orN D).y0) (.int .i64 (orN D).x1) (.int .i64 (orN D).y1) (.slice qo qn qm)) HA.out.1 HA.out.2.2).x, has5_set HA.out.2.1 (orN D).x0 (orN D).y0 (orN D).x1 (orN D).y1 qo qn qm, (HE.out.1.but (but_set5 _ _ (.int .i64 (orN D).x0) (.int .i64 (orN D).y0) (.int .i64 (orN D).x1) (.int .i64 (orN D).y1) (.slice qo qn qm)) (fun h => Ne.symm (HNE.out h))).v, HLQ.out, HA.out.1⟩
                | with_reducible exact ⟨_, qo, qn, qm, qg, qoff, rfl, (HYp.out.below ((Below.refl _ _).alloc (Nat.le_refl _) (.cells #[.int .i64 (orN D).x0, .int .i64 (orN D).y0, .int .i64 (orN D).x1, .int .i64 (orN D).y1, .slice qo qn qm] 26))).x, Has5.new rfl _ _ _ _ _ _ _ _, (HEp.out.1.below ((Below.refl _ _).alloc (Nat.le_refl _) (.cells #[.int .i64 (orN D).x0, .int .i64 (orN D).y0, .int .i64 (orN D).x1, .int .i64 (orN D).y1, .slice qo qn qm] 26))).v, HLQ.out, HYp.out.x.sz⟩
        · go_simp
          refine hK.out _ _ ?_ (fun hHeld => ?_)
          · have hXn := (lk_buf HY.out).1
            exact ⟨hXn.x.b.c0, hXn.x.b.c1, hXn.x.b.c2, hXn.x.b.c3, hXn.x.b.c4, hXn.x.d.c0, hXn.x.d.c1, hXn.x.d.c2, hXn.x.d.c3, hXn.a.c0, hXn.a.c1, hXn.a.c2, hXn.a.c3⟩
          clear hK K
          try simp only [Act.put, List.setIfInBounds_toArray, List.set_cons_zero, List.set_cons_succ]
          have HYp := HY
          try have HEp := HE
          have HA := hid (lk_buf HY.out).2
          replace HY := hid (lk_buf HY.out).1
          obtain ⟨y0, y1, y2, y3, y4, yf⟩ := HA.out.2.1
          try replace HVc := hid (HVc.out.below ((Below.refl _ _).alloc (Nat.le_refl _) (.cells #[.int .i64 0, .int .i64 0, .int .i64 0, .int .i64 0, .slice none 0 0] 26)))
          try (have HNE := hid (fun (h : 0 < qm) => Nat.ne_of_gt (HE.out.2 h)); replace HE := hid (And.intro (HE.out.1.below ((Below.refl _ _).alloc (Nat.le_refl _) (.cells #[.int .i64 0, .int .i64 0, .int .i64 0, .int .i64 0, .slice none 0 0] 26))) trivial))
          refine wpAnyH_ready (rs := [4]) (by kernel_rfl) (by simp) ?_
          refine AllReadyH.cons (o := { dst := some 102, op := Op.call { callee := Callee.value (Operand.func 20), args := #[Operand.tmp 98, Operand.tmp 99, Operand.tmp 100, Operand.tmp 101], argTypes := #[26, 23, 3, 3] }, type := 26, pos := "law.go:106", after := #[{ on := 0, ground := Ground.data }, { on := 1, ground := Ground.data }, { on := 2, ground := Ground.data }, { on := 3, ground := Ground.data }], guard := none }) rfl (fun K hK => ?_) AllReadyH.nil
          go_simp
          (go_at_call 20; with_reducible refine Calls.mono (offset_any B ao n m g off f ⟨D.x0 + dx, D.y0 + dy, D.x1 + dx, D.y1 + dy⟩ dx dy _ HU.out.1 HU.out.2.1 (HV.out.below HY.out.x.low) HT.out.1 HT.out.2.1 HT.out.2.2.1.1 HT.out.2.2.1.2) ?_; rintro e wc ⟨hr, hb⟩; obtain ⟨co, cn, cm, cg, coff, rfl, hO, hg1, hg2, hln⟩ := retG hr; rw [img_len] at hln; have HVc := hid hO.v; have HLc : Hid (bufB (orN ⟨D.x0 + dx, D.y0 + dy, D.x1 + dx, D.y1 + dy⟩) cn = true ∧ cn ≤ 5000) := (by rw [← hln]; exact hid HT.out.2.2.2.2); (try (replace HA := hid (And.intro HA.out.1 (And.intro (HA.out.2.1.below hb) HA.out.2.2)); clear y0 y1 y2 y3 y4 yf; obtain ⟨y0, y1, y2, y3, y4, yf⟩ := HA.out.2.1)); replace HY := hid (HY.out.below hb); clear hr hO hg1 hg2 hln hb)
          go_wp2_with fail
          refine hK.out _ _ ?_ (fun hHeld => ?_)
          · exact ⟨HY.out.x.b.c0, HY.out.x.b.c1, HY.out.x.b.c2, HY.out.x.b.c3, HY.out.x.b.c4, HY.out.x.d.c0, HY.out.x.d.c1, HY.out.x.d.c2, HY.out.x.d.c3, HY.out.a.c0, HY.out.a.c1, HY.out.a.c2, HY.out.a.c3⟩
          clear hK K
          try simp only [Act.put, List.setIfInBounds_toArray, List.set_cons_zero, List.set_cons_succ]
          refine wpAnyH_ready (rs := [10]) (by kernel_rfl) (by simp) ?_
          refine AllReadyH.cons (o := { dst := some 108, op := Op.call { callee := Callee.value (Operand.func 20), args := #[Operand.tmp 102, Operand.tmp 103, Operand.tmp 105, Operand.tmp 107], argTypes := #[26, 23, 3, 3] }, type := 26, pos := "law.go:106", after := #[{ on := 4, ground := Ground.data }, { on := 5, ground := Ground.data }, { on := 7, ground := Ground.data }, { on := 9, ground := Ground.data }, { on := 4, ground := Ground.chain }], guard := none }) rfl (fun K hK => ?_) AllReadyH.nil
          go_simp
          (go_at_call 20; rw [HWR.out.1, HWR.out.2]; with_reducible refine Calls.mono (offset_any (orN ⟨D.x0 + dx, D.y0 + dy, D.x1 + dx, D.y1 + dy⟩) co cn cm cg coff (fun x y => atX B f (x - dx) (y - dy)) D (-dx) (-dy) _ HLc.out.2 HLc.out.1 HVc.out HDD.out.1 HDD.out.2 HT.out.2.2.2.1.1 HT.out.2.2.2.1.2) ?_; rintro e wc ⟨hr, hb⟩; rw [HBK.out] at hr; obtain ⟨qo, qn, qm, qg, qoff, rfl, hO, hg1, hg2, hln⟩ := retG hr; have HE := hid (And.intro hO hg2); have HLQ := hid hln; (try (have HNE := hid (fun (_ : 0 < qm) => ne_pre HA.out.2.1 hg1))); (try (replace HA := hid (And.intro HA.out.1 (And.intro (HA.out.2.1.below hb) HA.out.2.2)); clear y0 y1 y2 y3 y4 yf; obtain ⟨y0, y1, y2, y3, y4, yf⟩ := HA.out.2.1)); replace HY := hid (HY.out.below hb); clear hr hO hg1 hg2 hln hb)
          go_wp2_with fail
          refine hK.out _ _ ?_ (fun hHeld => ?_)
          · exact ⟨HY.out.x.b.c0, HY.out.x.b.c1, HY.out.x.b.c2, HY.out.x.b.c3, HY.out.x.b.c4, HY.out.x.d.c0, HY.out.x.d.c1, HY.out.x.d.c2, HY.out.x.d.c3, HY.out.a.c0, HY.out.a.c1, HY.out.a.c2, HY.out.a.c3⟩
          clear hK K
          try simp only [Act.put, List.setIfInBounds_toArray, List.set_cons_zero, List.set_cons_succ]
          refine wpAnyH_ready (rs := [12]) (by kernel_rfl) (by simp) ?_
          refine AllReadyH.cons (o := { dst := none, op := Op.store 26 (Operand.tmp 16) (Operand.tmp 108), type := 0, pos := "law.go:106", after := #[{ on := 11, ground := Ground.data }, { on := 10, ground := Ground.data }, { on := 10, ground := Ground.chain }, { on := 0, ground := Ground.phase }, { on := 1, ground := Ground.phase }, { on := 2, ground := Ground.phase }, { on := 3, ground := Ground.phase }, { on := 4, ground := Ground.phase }, { on := 5, ground := Ground.phase }, { on := 6, ground := Ground.phase }, { on := 7, ground := Ground.phase }, { on := 8, ground := Ground.phase }, { on := 9, ground := Ground.phase }, { on := 10, ground := Ground.phase }, { on := 11, ground := Ground.phase }], guard := none }) rfl (fun K hK => ?_) AllReadyH.nil
          go_simp
          refine hK.out _ _ ?_ (fun hHeld => ?_)
          · first
              | (have hXn := HY.out.but (but_set5 _ _ (.int .i64 (orN D).x0) (.int .i64 (orN D).y0) (.int .i64 (orN D).x1) (.int .i64 (orN D).y1) (.slice qo qn qm)) HA.out.1 HA.out.2.2; with_reducible exact ⟨hXn.x.b.c0, hXn.x.b.c1, hXn.x.b.c2, hXn.x.b.c3, hXn.x.b.c4, hXn.x.d.c0, hXn.x.d.c1, hXn.x.d.c2, hXn.x.d.c3, hXn.a.c0, hXn.a.c1, hXn.a.c2, hXn.a.c3⟩)
              | (have hXn := HYp.out.below ((Below.refl _ _).alloc (Nat.le_refl _) (.cells #[.int .i64 (orN D).x0, .int .i64 (orN D).y0, .int .i64 (orN D).x1, .int .i64 (orN D).y1, .slice qo qn qm] 26)); with_reducible exact ⟨hXn.x.b.c0, hXn.x.b.c1, hXn.x.b.c2, hXn.x.b.c3, hXn.x.b.c4, hXn.x.d.c0, hXn.x.d.c1, hXn.x.d.c2, hXn.x.d.c3, hXn.a.c0, hXn.a.c1, hXn.a.c2, hXn.a.c3⟩)
          clear hK K
          try simp only [Act.put, List.setIfInBounds_toArray, List.set_cons_zero, List.set_cons_succ]
          refine wpAnyH_done (by kernel_rfl) ?_ _
          go_wp2_with fail
          go_meet
          case rel =>
            first
              | with_reducible exact ⟨_, qo, qn, qm, qg, qoff, rfl, (HY.out.but (but_set5 _ _ (.int .i64 (orN D).x0) (.int .i64 (orN D).y0) (.int .i64 (orN D).x1) (.int .i64 (orN D).y1) (.slice qo qn qm)) HA.out.1 HA.out.2.2).x, has5_set HA.out.2.1 (orN D).x0 (orN D).y0 (orN D).x1 (orN D).y1 qo qn qm, (HE.out.1.but (but_set5 _ _ (.int .i64 (orN D).x0) (.int .i64 (orN D).y0) (.int .i64 (orN D).x1) (.int .i64 (orN D).y1) (.slice qo qn qm)) (fun h => Ne.symm (HNE.out h))).v, HLQ.out, HA.out.1⟩
              | with_reducible exact ⟨_, qo, qn, qm, qg, qoff, rfl, (HYp.out.below ((Below.refl _ _).alloc (Nat.le_refl _) (.cells #[.int .i64 (orN D).x0, .int .i64 (orN D).y0, .int .i64 (orN D).x1, .int .i64 (orN D).y1, .slice qo qn qm] 26))).x, Has5.new rfl _ _ _ _ _ _ _ _, (HEp.out.1.below ((Below.refl _ _).alloc (Nat.le_refl _) (.cells #[.int .i64 (orN D).x0, .int .i64 (orN D).y0, .int .i64 (orN D).x1, .int .i64 (orN D).y1, .slice qo qn qm] 26))).v, HLQ.out, HYp.out.x.sz⟩
      case rest =>
        obtain ⟨k16, qo, qn, qm, qg, qoff, rfl, hX, hH, hQ, hln, hk⟩ := hcut
        obtain ⟨w8, rfl⟩ : ∃ w8, w8 = wc := ⟨_, rfl⟩
        have HZ : Hid (Lm W B ao n m D p k16 qo qn qm qg qoff (img (orN D) (copyG D (atX B f) 0 0 fun _ _ => noX)) w8.drew) := hid ((Lm.mk hX hH hQ).below (Below.refl _ _).drew)
        have HLQ := hid hln
        clear hX hH hQ hln hk
        go_wp2
        refine wp_region_held_drew (S := (fun w' => w'.cell? ⟨W.heap.size, 0, none⟩ = some (.int .i64 B.x0) ∧ w'.cell? ⟨W.heap.size, 1, none⟩ = some (.int .i64 B.y0) ∧ w'.cell? ⟨W.heap.size, 2, none⟩ = some (.int .i64 B.x1) ∧ w'.cell? ⟨W.heap.size, 3, none⟩ = some (.int .i64 B.y1) ∧ w'.cell? ⟨W.heap.size, 4, none⟩ = some (.slice ao n m) ∧ w'.cell? ⟨(W.heap.size + 1), 0, none⟩ = some (.int .i64 D.x0) ∧ w'.cell? ⟨(W.heap.size + 1), 1, none⟩ = some (.int .i64 D.y0) ∧ w'.cell? ⟨(W.heap.size + 1), 2, none⟩ = some (.int .i64 D.x1) ∧ w'.cell? ⟨(W.heap.size + 1), 3, none⟩ = some (.int .i64 D.y1) ∧ w'.cell? ⟨k16, 0, none⟩ = some (.int .i64 (orN D).x0) ∧ w'.cell? ⟨k16, 1, none⟩ = some (.int .i64 (orN D).y0) ∧ w'.cell? ⟨k16, 2, none⟩ = some (.int .i64 (orN D).x1) ∧ w'.cell? ⟨k16, 3, none⟩ = some (.int .i64 (orN D).y1) ∧ w'.cell? ⟨k16, 4, none⟩ = some (.slice qo qn qm))) (by kernel_rfl) ?_ (fun hHeld => ?_)
        · exact ⟨HZ.out.x.b.c0, HZ.out.x.b.c1, HZ.out.x.b.c2, HZ.out.x.b.c3, HZ.out.x.b.c4, HZ.out.x.d.c0, HZ.out.x.d.c1, HZ.out.x.d.c2, HZ.out.x.d.c3, HZ.out.h.c0, HZ.out.h.c1, HZ.out.h.c2, HZ.out.h.c3, HZ.out.h.c4⟩
        generalize w8.drew = wd at HZ hHeld ⊢
        refine wpAnyH_take (i := 0) (oi := { dst := some 109, op := Op.load 26 (Operand.tmp 16), type := 26, pos := "law.go:107", after := #[], guard := none }) (v := ?_) rfl (by kernel_rfl) (by kernel_rfl) (by kernel_rfl) (fun _ _ _ h => h) (Or.inl ⟨by rfl, ?hy⟩) (by assumption) ?_
        case hy => (intro w hSw; (try dsimp only at hSw); go_simp; first | done | with_reducible rfl)
        try simp only [Act.put, List.setIfInBounds_toArray, List.set_cons_zero, List.set_cons_succ]
        refine wpAnyH_take (i := 1) (oi := { dst := some 110, op := Op.load 26 (Operand.tmp 6), type := 26, pos := "law.go:107", after := #[], guard := none }) (v := ?_) rfl (by kernel_rfl) (by kernel_rfl) (by kernel_rfl) (fun _ _ _ h => h) (Or.inl ⟨by rfl, ?hy⟩) (by assumption) ?_
        case hy => (intro w hSw; (try dsimp only at hSw); go_simp; first | done | with_reducible rfl)
        try simp only [Act.put, List.setIfInBounds_toArray, List.set_cons_zero, List.set_cons_succ]
        refine wpAnyH_take (i := 2) (oi := { dst := some 111, op := Op.load 23 (Operand.tmp 7), type := 23, pos := "law.go:107", after := #[], guard := none }) (v := ?_) rfl (by kernel_rfl) (by kernel_rfl) (by kernel_rfl) (fun _ _ _ h => h) (Or.inl ⟨by rfl, ?hy⟩) (by assumption) ?_
        case hy => (intro w hSw; (try dsimp only at hSw); go_simp; first | done | with_reducible rfl)
        try simp only [Act.put, List.setIfInBounds_toArray, List.set_cons_zero, List.set_cons_succ]
        refine wpAnyH_ready (rs := [3]) (by kernel_rfl) (by simp) ?_
        refine AllReadyH.cons (o := { dst := some 112, op := Op.call { callee := Callee.value (Operand.func 33), args := #[Operand.tmp 110, Operand.tmp 111], argTypes := #[26, 23] }, type := 26, pos := "law.go:107", after := #[{ on := 1, ground := Ground.data }, { on := 2, ground := Ground.data }], guard := none }) rfl (fun K hK => ?_) AllReadyH.nil
        go_simp
        (go_at_call 33; with_reducible refine Calls.mono (refWindow_any B ao n m g off f D _ HU.out.1 HDD2.out (HV.out.below HZ.out.x.low) HDD.out.1 HDD.out.2) ?_; rintro e wc ⟨hr, hb⟩; obtain ⟨uo, un, um, ug, uoff, rfl, hO, hg1, hg2, hln⟩ := retG hr; have HNu := hid (hln.symm.trans HLQ.out); have HSu := hid hO.v; (try replace HSs := hid (HSs.out.below hb)); replace HZ := hid (HZ.out.below hb); clear hr hO hg1 hg2 hln hb)
        go_wp2_with fail
        refine hK.out _ _ ?_ (fun hHeld => ?_)
        · exact ⟨HZ.out.x.b.c0, HZ.out.x.b.c1, HZ.out.x.b.c2, HZ.out.x.b.c3, HZ.out.x.b.c4, HZ.out.x.d.c0, HZ.out.x.d.c1, HZ.out.x.d.c2, HZ.out.x.d.c3, HZ.out.h.c0, HZ.out.h.c1, HZ.out.h.c2, HZ.out.h.c3, HZ.out.h.c4⟩
        clear hK K
        try simp only [Act.put, List.setIfInBounds_toArray, List.set_cons_zero, List.set_cons_succ]
        refine wpAnyH_ready (rs := [4]) (by kernel_rfl) (by simp) ?_
        refine AllReadyH.cons (o := { dst := some 113, op := Op.call { callee := Callee.value (Operand.func 17), args := #[Operand.tmp 109, Operand.tmp 112], argTypes := #[26, 26] }, type := 4, pos := "law.go:107", after := #[{ on := 0, ground := Ground.data }, { on := 3, ground := Ground.data }, { on := 3, ground := Ground.chain }], guard := none }) rfl (fun K hK => ?_) AllReadyH.nil
        go_simp
        (go_at_call 17; with_reducible refine Calls.mono (same_two (orN D) qo qn qm qg qoff uo un um ug uoff _ _ HNu.out HZ.out.v HSu.out) ?_; rintro e wc ⟨rfl, hb⟩; replace HZ := hid (HZ.out.below hb); clear hb)
        go_wp2_with fail
        refine hK.out _ _ ?_ (fun hHeld => ?_)
        · exact ⟨HZ.out.x.b.c0, HZ.out.x.b.c1, HZ.out.x.b.c2, HZ.out.x.b.c3, HZ.out.x.b.c4, HZ.out.x.d.c0, HZ.out.x.d.c1, HZ.out.x.d.c2, HZ.out.x.d.c3, HZ.out.h.c0, HZ.out.h.c1, HZ.out.h.c2, HZ.out.h.c3, HZ.out.h.c4⟩
        clear hK K
        try simp only [Act.put, List.setIfInBounds_toArray, List.set_cons_zero, List.set_cons_succ]
        refine wpAnyH_take (i := 5) (oi := { dst := some 114, op := Op.move (Operand.tmp 113), type := 4, pos := "law.go:107", after := #[{ on := 4, ground := Ground.data }, { on := 4, ground := Ground.chain }], guard := none }) (v := ?_) rfl (by kernel_rfl) (by kernel_rfl) (by kernel_rfl) (fun _ _ _ h => h) (Or.inl ⟨by rfl, ?hy⟩) (by assumption) ?_
        case hy => (intro w hSw; (try dsimp only at hSw); go_simp; first | done | with_reducible rfl)
        try simp only [Act.put, List.setIfInBounds_toArray, List.set_cons_zero, List.set_cons_succ]
        refine wpAnyH_take (i := 6) (oi := { dst := some 115, op := Op.load 26 (Operand.tmp 6), type := 26, pos := "law.go:107", after := #[{ on := 5, ground := Ground.guard }], guard := some (5, true) }) (v := ?_) rfl (by kernel_rfl) (by kernel_rfl) (by kernel_rfl) (fun _ _ _ h => h) (Or.inl ⟨by rfl, ?hy⟩) (by assumption) ?_
        case hy => (intro w hSw; (try dsimp only at hSw); go_simp; first | done | with_reducible rfl)
        try simp only [Act.put, List.setIfInBounds_toArray, List.set_cons_zero, List.set_cons_succ]
        refine wpAnyH_take (i := 7) (oi := { dst := some 116, op := Op.load 23 (Operand.tmp 7), type := 23, pos := "law.go:107", after := #[{ on := 5, ground := Ground.guard }], guard := some (5, true) }) (v := ?_) rfl (by kernel_rfl) (by kernel_rfl) (by kernel_rfl) (fun _ _ _ h => h) (Or.inl ⟨by rfl, ?hy⟩) (by assumption) ?_
        case hy => (intro w hSw; (try dsimp only at hSw); go_simp; first | done | with_reducible rfl)
        try simp only [Act.put, List.setIfInBounds_toArray, List.set_cons_zero, List.set_cons_succ]
        refine wpAnyH_take (i := 8) (oi := { dst := some 117, op := Op.move (Operand.tmp 2), type := 3, pos := "law.go:107", after := #[{ on := 5, ground := Ground.guard }], guard := some (5, true) }) (v := ?_) rfl (by kernel_rfl) (by kernel_rfl) (by kernel_rfl) (fun _ _ _ h => h) (Or.inl ⟨by rfl, ?hy⟩) (by assumption) ?_
        case hy => (intro w hSw; (try dsimp only at hSw); go_simp; first | done | with_reducible rfl)
        try simp only [Act.put, List.setIfInBounds_toArray, List.set_cons_zero, List.set_cons_succ]
        refine wpAnyH_take (i := 9) (oi := { dst := some 118, op := Op.move (Operand.tmp 3), type := 3, pos := "law.go:107", after := #[{ on := 5, ground := Ground.guard }], guard := some (5, true) }) (v := ?_) rfl (by kernel_rfl) (by kernel_rfl) (by kernel_rfl) (fun _ _ _ h => h) (Or.inl ⟨by rfl, ?hy⟩) (by assumption) ?_
        case hy => (intro w hSw; (try dsimp only at hSw); go_simp; first | done | with_reducible rfl)
        try simp only [Act.put, List.setIfInBounds_toArray, List.set_cons_zero, List.set_cons_succ]
        refine wpAnyH_take (i := 10) (oi := { dst := some 119, op := Op.move (Operand.tmp 4), type := 3, pos := "law.go:107", after := #[{ on := 5, ground := Ground.guard }], guard := some (5, true) }) (v := ?_) rfl (by kernel_rfl) (by kernel_rfl) (by kernel_rfl) (fun _ _ _ h => h) (Or.inl ⟨by rfl, ?hy⟩) (by assumption) ?_
        case hy => (intro w hSw; (try dsimp only at hSw); go_simp; first | done | with_reducible rfl)
        try simp only [Act.put, List.setIfInBounds_toArray, List.set_cons_zero, List.set_cons_succ]
        refine wpAnyH_take (i := 11) (oi := { dst := some 120, op := Op.move (Operand.tmp 4), type := 3, pos := "law.go:107", after := #[{ on := 5, ground := Ground.guard }], guard := some (5, true) }) (v := ?_) rfl (by kernel_rfl) (by kernel_rfl) (by kernel_rfl) (fun _ _ _ h => h) (Or.inl ⟨by rfl, ?hy⟩) (by assumption) ?_
        case hy => (intro w hSw; (try dsimp only at hSw); go_simp; first | done | with_reducible rfl)
        try simp only [Act.put, List.setIfInBounds_toArray, List.set_cons_zero, List.set_cons_succ]
        refine wpAnyH_take (i := 12) (oi := { dst := some 121, op := Op.build 28 #[], type := 28, pos := "law.go:107", after := #[{ on := 5, ground := Ground.guard }], guard := some (5, true) }) (v := ?_) rfl (by kernel_rfl) (by kernel_rfl) (by kernel_rfl) (fun _ _ _ h => h) (Or.inl ⟨by rfl, ?hy⟩) (by assumption) ?_
        case hy => (intro w hSw; (try dsimp only at hSw); go_simp; first | done | with_reducible rfl)
        try simp only [Act.put, List.setIfInBounds_toArray, List.set_cons_zero, List.set_cons_succ]
        refine wpAnyH_take (i := 14) (oi := { dst := some 123, op := Op.load 26 (Operand.tmp 6), type := 26, pos := "law.go:107", after := #[{ on := 5, ground := Ground.guard }], guard := some (5, true) }) (v := ?_) rfl (by kernel_rfl) (by kernel_rfl) (by kernel_rfl) (fun _ _ _ h => h) (Or.inl ⟨by rfl, ?hy⟩) (by assumption) ?_
        case hy => (intro w hSw; (try dsimp only at hSw); go_simp; first | done | with_reducible rfl)
        try simp only [Act.put, List.setIfInBounds_toArray, List.set_cons_zero, List.set_cons_succ]
        refine wpAnyH_take (i := 15) (oi := { dst := some 124, op := Op.load 23 (Operand.tmp 7), type := 23, pos := "law.go:107", after := #[{ on := 5, ground := Ground.guard }], guard := some (5, true) }) (v := ?_) rfl (by kernel_rfl) (by kernel_rfl) (by kernel_rfl) (fun _ _ _ h => h) (Or.inl ⟨by rfl, ?hy⟩) (by assumption) ?_
        case hy => (intro w hSw; (try dsimp only at hSw); go_simp; first | done | with_reducible rfl)
        try simp only [Act.put, List.setIfInBounds_toArray, List.set_cons_zero, List.set_cons_succ]
        refine wpAnyH_ready (rs := [13]) (by kernel_rfl) (by simp) ?_
        refine AllReadyH.cons (o := { dst := some 122, op := Op.call { callee := Callee.value (Operand.func 27), args := #[Operand.tmp 115, Operand.tmp 116, Operand.tmp 117, Operand.tmp 118, Operand.tmp 119, Operand.tmp 120, Operand.tmp 121], argTypes := #[26, 23, 3, 3, 3, 3, 28] }, type := 26, pos := "law.go:107", after := #[{ on := 6, ground := Ground.data }, { on := 7, ground := Ground.data }, { on := 8, ground := Ground.data }, { on := 9, ground := Ground.data }, { on := 10, ground := Ground.data }, { on := 11, ground := Ground.data }, { on := 12, ground := Ground.data }, { on := 5, ground := Ground.chain }, { on := 5, ground := Ground.guard }], guard := some (5, true) }) rfl (fun K hK => ?_) AllReadyH.nil
        go_simp
        (go_at_call 27; with_reducible refine Calls.mono (shadow_zero B ao n m g off f D dx dy k k _ HU.out.1 HU.out.2.1 (HV.out.below HZ.out.x.low) HU.out.2.2.1 HU.out.2.2.2.1 HU.out.2.2.2.2.1 HU.out.2.2.2.2.2.1 HU.out.2.2.2.2.2.1 HU.out.2.2.2.2.2.2.1 HU.out.2.2.2.2.2.2.2.1) ?_; rintro e wc ⟨hr, hb⟩; rw [HWI.out] at hr; obtain ⟨so, sn, sm, sg, soff, rfl, hO, hg1, hg2, hln⟩ := retG hr; have HNs := hid (hln.symm.trans HLQ.out); have HSs := hid hO.v; (try replace HSv := hid (HSv.out.below hb)); replace HZ := hid (HZ.out.below hb); clear hr hO hg1 hg2 hln hb)
        go_wp2_with fail
        refine hK.out _ _ ?_ (fun hHeld => ?_)
        · exact ⟨HZ.out.x.b.c0, HZ.out.x.b.c1, HZ.out.x.b.c2, HZ.out.x.b.c3, HZ.out.x.b.c4, HZ.out.x.d.c0, HZ.out.x.d.c1, HZ.out.x.d.c2, HZ.out.x.d.c3, HZ.out.h.c0, HZ.out.h.c1, HZ.out.h.c2, HZ.out.h.c3, HZ.out.h.c4⟩
        clear hK K
        try simp only [Act.put, List.setIfInBounds_toArray, List.set_cons_zero, List.set_cons_succ]
        refine wpAnyH_ready (rs := [16]) (by kernel_rfl) (by simp) ?_
        refine AllReadyH.cons (o := { dst := some 125, op := Op.call { callee := Callee.value (Operand.func 33), args := #[Operand.tmp 123, Operand.tmp 124], argTypes := #[26, 23] }, type := 26, pos := "law.go:107", after := #[{ on := 14, ground := Ground.data }, { on := 15, ground := Ground.data }, { on := 13, ground := Ground.chain }, { on := 5, ground := Ground.guard }], guard := some (5, true) }) rfl (fun K hK => ?_) AllReadyH.nil
        go_simp
        (go_at_call 33; with_reducible refine Calls.mono (refWindow_any B ao n m g off f D _ HU.out.1 HDD2.out (HV.out.below HZ.out.x.low) HDD.out.1 HDD.out.2) ?_; rintro e wc ⟨hr, hb⟩; obtain ⟨vo, vn, vm, vg, voff, rfl, hO, hg1, hg2, hln⟩ := retG hr; have HNv := hid (hln.symm.trans HLQ.out); have HSv := hid hO.v; (try replace HSs := hid (HSs.out.below hb)); replace HZ := hid (HZ.out.below hb); clear hr hO hg1 hg2 hln hb)
        go_wp2_with fail
        refine hK.out _ _ ?_ (fun hHeld => ?_)
        · exact ⟨HZ.out.x.b.c0, HZ.out.x.b.c1, HZ.out.x.b.c2, HZ.out.x.b.c3, HZ.out.x.b.c4, HZ.out.x.d.c0, HZ.out.x.d.c1, HZ.out.x.d.c2, HZ.out.x.d.c3, HZ.out.h.c0, HZ.out.h.c1, HZ.out.h.c2, HZ.out.h.c3, HZ.out.h.c4⟩
        clear hK K
        try simp only [Act.put, List.setIfInBounds_toArray, List.set_cons_zero, List.set_cons_succ]
        refine wpAnyH_ready (rs := [17]) (by kernel_rfl) (by simp) ?_
        refine AllReadyH.cons (o := { dst := some 126, op := Op.call { callee := Callee.value (Operand.func 17), args := #[Operand.tmp 122, Operand.tmp 125], argTypes := #[26, 26] }, type := 4, pos := "law.go:107", after := #[{ on := 13, ground := Ground.data }, { on := 16, ground := Ground.data }, { on := 16, ground := Ground.chain }, { on := 5, ground := Ground.guard }], guard := some (5, true) }) rfl (fun K hK => ?_) AllReadyH.nil
        go_simp
        (go_at_call 17; with_reducible refine Calls.mono (same_two (orN D) so sn sm sg soff vo vn vm vg voff _ _ (HNv.out.trans HNs.out.symm) HSs.out HSv.out) ?_; rintro e wc ⟨rfl, hb⟩; replace HZ := hid (HZ.out.below hb); clear hb)
        go_wp2_with fail
        refine hK.out _ _ ?_ (fun hHeld => ?_)
        · exact ⟨HZ.out.x.b.c0, HZ.out.x.b.c1, HZ.out.x.b.c2, HZ.out.x.b.c3, HZ.out.x.b.c4, HZ.out.x.d.c0, HZ.out.x.d.c1, HZ.out.x.d.c2, HZ.out.x.d.c3, HZ.out.h.c0, HZ.out.h.c1, HZ.out.h.c2, HZ.out.h.c3, HZ.out.h.c4⟩
        clear hK K
        try simp only [Act.put, List.setIfInBounds_toArray, List.set_cons_zero, List.set_cons_succ]
        refine wpAnyH_take (i := 18) (oi := { dst := some 127, op := Op.pick (Operand.tmp 114) (Operand.tmp 126) (Operand.const (Value.bool false)), type := 4, pos := "law.go:107", after := #[{ on := 5, ground := Ground.data }, { on := 17, ground := Ground.data }], guard := none }) (v := ?_) rfl (by kernel_rfl) (by kernel_rfl) (by kernel_rfl) (fun _ _ _ h => h) (Or.inl ⟨by rfl, ?hy⟩) (by assumption) ?_
        case hy => (intro w hSw; (try dsimp only at hSw); go_simp; first | done | with_reducible rfl)
        try simp only [Act.put, List.setIfInBounds_toArray, List.set_cons_zero, List.set_cons_succ]
        refine wpAnyH_take (i := 19) (oi := { dst := some 12, op := Op.assign (Operand.tmp 127), type := 4, pos := "law.go:107", after := #[{ on := 18, ground := Ground.data }, { on := 17, ground := Ground.chain }, { on := 0, ground := Ground.phase }, { on := 1, ground := Ground.phase }, { on := 2, ground := Ground.phase }, { on := 3, ground := Ground.phase }, { on := 4, ground := Ground.phase }, { on := 5, ground := Ground.phase }, { on := 6, ground := Ground.phase }, { on := 7, ground := Ground.phase }, { on := 8, ground := Ground.phase }, { on := 9, ground := Ground.phase }, { on := 10, ground := Ground.phase }, { on := 11, ground := Ground.phase }, { on := 12, ground := Ground.phase }, { on := 13, ground := Ground.phase }, { on := 14, ground := Ground.phase }, { on := 15, ground := Ground.phase }, { on := 16, ground := Ground.phase }, { on := 17, ground := Ground.phase }, { on := 18, ground := Ground.phase }], guard := none }) (v := ?_) rfl (by kernel_rfl) (by kernel_rfl) (by kernel_rfl) (fun _ _ _ h => h) (Or.inl ⟨by rfl, ?hy⟩) (by assumption) ?_
        case hy => (intro w hSw; (try dsimp only at hSw); go_simp; first | done | with_reducible rfl)
        try simp only [Act.put, List.setIfInBounds_toArray, List.set_cons_zero, List.set_cons_succ]
        refine wpAnyH_done (by kernel_rfl) ?_ _
        go_wp2
        go_ret
        exact ⟨rfl, HZ.out.x.low⟩

theorem own : ownKnob Try.prog.godebug = none := by kernel_rfl

set_option maxRecDepth 100000 in
theorem lifted (os : Os) (started : os.Started) (H : Type) (enc : TypeId × Value → H) :
    ReturnsInHanded {} Try.checked os 7 .any (Rows.moveRightSpec.pre6 enc Try.prog Try.f7 Rows.moveRightRow.domain false) (Rows.moveRightSpec.post enc Try.prog Try.f7 false true false false) := by
  refine returnsInHanded_of_change (C := Try.checked) own started (by kernel_rfl) Try.func7
    (ChangeSpec.witness6 (enc := enc) (C := Try.checked) false ⟨#[], #[.agg #[.int .i64 0, .int .i64 0, .int .i64 0, .int .i64 0, .slice none 0 0], .agg #[.int .i64 0, .int .i64 0, .int .i64 0, .int .i64 0], .int .i64 0, .int .i64 0, .int .i64 0, .agg #[.int .u8 0, .int .u8 0, .int .u8 0, .int .u8 0]], []⟩ 8 (by kernel_rfl) (by kernel_rfl) (by kernel_rfl) (by kernel_rfl)) ?_
  intro W base args ds gs before hval0 hW hcnd _
  have hval : ∀ (j : Nat) t v, Try.f7.params[j]? = some t → args[j]? = some v → Value.okWide Try.prog W .any base t v := hval0
  have hW' := hW
  obtain ⟨p, q, hA0, hV, rfl, hfz, hnd⟩ := hW
  have hA : DataW.TrodAll enc Try.prog W 0 (fun _ => true) true Try.f7.params.toList args.toList ds p := hA0
  rw [Try.params7] at hA hval
  obtain ⟨v0, vs0, d0, ds0, p0, q0, hargs, rfl, rfl, h0, r0⟩ := trodAll_cons hA
  obtain ⟨v1, vs1, d1, ds1, p1, q1, rfl, rfl, rfl, h1, r1⟩ := trodAll_cons r0
  obtain ⟨v2, vs2, d2, ds2, p2, q2, rfl, rfl, rfl, h2, r2⟩ := trodAll_cons r1
  obtain ⟨v3, vs3, d3, ds3, p3, q3, rfl, rfl, rfl, h3, r3⟩ := trodAll_cons r2
  obtain ⟨v4, vs4, d4, ds4, p4, q4, rfl, rfl, rfl, h4, r4⟩ := trodAll_cons r3
  obtain ⟨v5, vs5, d5, ds5, p5, q5, rfl, rfl, rfl, h5, r5⟩ := trodAll_cons r4
  obtain ⟨rfl, rfl, rfl⟩ := trodAll_nil r5
  obtain rfl : args = #[v0, v1, v2, v3, v4, v5] := by cases args; simp_all
  obtain ⟨rfl, rfl⟩ := trodVars_none hV
  obtain ⟨B, ao, n, c, g, off, l, rfl, hv0, hp0⟩ := open_buf (hval 0 26 v0 rfl rfl) h0
  obtain ⟨D, rfl⟩ := open_rect (hval 1 23 v1 rfl rfl) h1
  obtain ⟨dx, rfl, -, -, -⟩ := open_int Try.underlying3 (hval 2 3 v2 rfl rfl) h2
  obtain ⟨dy, rfl, -, -, -⟩ := open_int Try.underlying3 (hval 3 3 v3 rfl rfl) h3
  obtain ⟨r, rfl, -, -, -⟩ := open_int Try.underlying3 (hval 4 3 v4 rfl rfl) h4
  obtain ⟨px, rfl, hb5⟩ := open_px (hval 5 28 v5 rfl rfl) h5
  clear hA0 hval0
  simp only [List.append_nil] at hW'
  have hlt : ∀ x ∈ p0 ++ (p1 ++ (p2 ++ (p3 ++ (p4 ++ (p5))))), x.block < W.heap.size := fun x hx => by simpa using hW'.lt x (by simpa using hx)
  refine (walk B ao n c g off l D dx dy r px W hv0 hp0 hb5).mono fun e W' ⟨he, hg⟩ => ?_
  subst he
  have t0 := Below.trod laidOut (by kernel_rfl) (of_decide_eq_true (by kernel_rfl)) h0 hg (fun x hx => hlt x (List.mem_append_left _ hx))
  have t1 := Below.trod laidOut (by kernel_rfl) (of_decide_eq_true (by kernel_rfl)) h1 hg (fun x hx => hlt x (List.mem_append_right _ (List.mem_append_left _ hx)))
  have t2 := Below.trod laidOut (by kernel_rfl) (of_decide_eq_true (by kernel_rfl)) h2 hg (fun x hx => hlt x (List.mem_append_right _ (List.mem_append_right _ (List.mem_append_left _ hx))))
  have t3 := Below.trod laidOut (by kernel_rfl) (of_decide_eq_true (by kernel_rfl)) h3 hg (fun x hx => hlt x (List.mem_append_right _ (List.mem_append_right _ (List.mem_append_right _ (List.mem_append_left _ hx)))))
  have t4 := Below.trod laidOut (by kernel_rfl) (of_decide_eq_true (by kernel_rfl)) h4 hg (fun x hx => hlt x (List.mem_append_right _ (List.mem_append_right _ (List.mem_append_right _ (List.mem_append_right _ (List.mem_append_left _ hx))))))
  have t5 := Below.trod laidOut (by kernel_rfl) (of_decide_eq_true (by kernel_rfl)) h5 hg (fun x hx => hlt x (List.mem_append_right _ (List.mem_append_right _ (List.mem_append_right _ (List.mem_append_right _ (List.mem_append_right _ (hx)))))))
  exact ⟨_, rfl, ⟨_, _, _, _, _, _, hW', (trodAll_cons_mk (shut_bool Try.underlying4 _) trodAll_mk0), (trodAll_cons_mk t0 (trodAll_cons_mk t1 (trodAll_cons_mk t2 (trodAll_cons_mk t3 (trodAll_cons_mk t4 (trodAll_cons_mk t5 trodAll_mk0)))))), rfl, hg.frame _, fun h => by cases h⟩⟩

theorem over : Rows.moveRightRow.holds Try.pinned (OpenSpec.ofChange Rows.moveRightSpec) :=
  OpenClaim.holds_of_wide 7 Try.f7 rfl rfl rfl rfl rfl rfl rfl ⟨rfl, rfl, rfl, rfl, rfl⟩ rfl rfl rfl rfl rfl (by kernel_rfl) Try.func7 (by kernel_rfl)
    (of_decide_eq_true (by kernel_rfl)) (by unfold Func.isWrapper; first | (rw [if_pos (by decide +kernel)]; kernel_rfl) | (rw [if_neg (by decide +kernel)]; exact ⟨rfl, rfl⟩))
    (fun os started H enc _ => lifted os started H enc)

theorem proved : Rows.MoveRightSaid := over
#print axioms proved
end Go.Proofs.Ytfgfgfmimejpdaa.moveRight
