/- A tile that is repeated looks the same so many columns and rows further on, and is itself in its own place; no condition. -/
import Derived.Test.YtfgfgfmimejpdaaRows
import Derived.WalkKit
import Derived.ProofKit
import Derived.OpenShut
import Derived.Test.YtfgfgfmimejpdaaOpen
import Derived.Test.YtfgfgfmimejpdaaLawS
import Derived.Test.YtfgfgfmimejpdaaAwake
import Derived.Test.YtfgfgfmimejpdaaTileB
import Derived.Test.YtfgfgfmimejpdaaAtB
import Derived.Test.YtfgfgfmimejpdaaSameB
import Derived.Deep.DeepCutAuto
import Derived.Deep.LoopGhost
import Derived.Deep.Light
import Derived.BigQuiet
import Derived.Deep.QuietTactic
namespace Go.Proofs.Ytfgfgfmimejpdaa.moveTiles
open Go.ChangeShapes Go.WideShapes Go.ChangeAt Go.RowKit Num
set_option linter.unusedVariables false
set_option linter.unusedSimpArgs false
attribute [local go_sem ↓] eqPx
/-- what is handed in stands -/
structure Kt (W : World) (B : R) (ao : Option Addr) (n m : Nat) (D : R) (T : R) (w : World) : Prop where
  b : Has5 w W.heap.size B ao n m
  d : Rc.Has4 w (W.heap.size + 1) (.int .i64 D.x0) (.int .i64 D.y0) (.int .i64 D.x1) (.int .i64 D.y1)
  t : Rc.Has4 w (W.heap.size + 1 + 1) (.int .i64 T.x0) (.int .i64 T.y0) (.int .i64 T.x1) (.int .i64 T.y1)
  low : Below W.heap.size W w
  sz : W.heap.size + 1 + 1 + 1 ≤ w.heap.size
theorem Kt.below {W : World} {B : R} {ao : Option Addr} {n m : Nat} {D : R} {T : R} {w w' : World} (x : Kt W B ao n m D T w) (hb : Below w.heap.size w w') : Kt W B ao n m D T w' := ⟨x.b.below hb, x.d.below hb, x.t.below hb, x.low.trans (hb.mono x.low.size), Nat.le_trans x.sz hb.size⟩
theorem Kt.but {W : World} {B : R} {ao : Option Addr} {n m : Nat} {D : R} {T : R} {w w' : World} (x : Kt W B ao n m D T w) {j : Nat} (hb : But j w w') (hj : W.heap.size + 1 + 1 + 1 ≤ j) : Kt W B ao n m D T w' := ⟨x.b.but hb (by omega), has4_but x.d hb (by omega), has4_but x.t hb (by omega), x.low.trans (hb.low (by omega) x.low.size), Nat.le_trans x.sz hb.size⟩
theorem kt_new (W : World) (B : R) (ao : Option Addr) (n m : Nat) (D : R) (T : R) : Kt W B ao n m D T ((((W.alloc (.cells #[.int .i64 B.x0, .int .i64 B.y0, .int .i64 B.x1, .int .i64 B.y1, .slice ao n m] 26)).alloc (.cells #[.int .i64 D.x0, .int .i64 D.y0, .int .i64 D.x1, .int .i64 D.y1] 23)).alloc (.cells #[.int .i64 T.x0, .int .i64 T.y0, .int .i64 T.x1, .int .i64 T.y1] 23))) := ⟨((Has5.new rfl _ _ _ _ _ _ _ _).alloc _).alloc _, (Rc.Has4.new (by simp) _ _ _ _ _).alloc _, Rc.Has4.new (by simp) _ _ _ _ _, ((((Below.refl _ _).alloc (Nat.le_refl _) _).alloc (by simp) _).alloc (by simp; omega) _), by simp⟩
theorem box4 (a b c d : Int) (w : World) :
    Calls Try.prog 11 #[.agg #[.int .i64 a, .int .i64 b, .int .i64 c, .int .i64 d]] w fun e w' => e = .returned (.bool (fineF ⟨a, b, c, d⟩ 0 0 400)) ∧ Below w.heap.size w w' := box_law ⟨a, b, c, d⟩ w
/-- a box so many widths and heights further on shows the same -/
theorem tiles_same {D T : R} {u : Int → Int → X} {m n mw nh : Int} (hm : m * (T.x1 - T.x0) = mw) (hn : n * (T.y1 - T.y0) = nh) : img (orN ⟨D.x0 + mw, D.y0 + nh, D.x1 + mw, D.y1 + nh⟩) (tileG T u) = img (orN D) (tileG T u) := by
  have he : empB ⟨D.x0 + mw, D.y0 + nh, D.x1 + mw, D.y1 + nh⟩ = empB D := by
    unfold empB
    rw [decide_eq_decide]
    dsimp only
    omega
  rcases h : empB D with _ | _
  · rw [orN_no (by rw [he, h]), orN_no h]
    have hw : wid ⟨D.x0 + mw, D.y0 + nh, D.x1 + mw, D.y1 + nh⟩ = wid D := by unfold wid; dsimp only; congr 1; omega
    have hh : hei ⟨D.x0 + mw, D.y0 + nh, D.x1 + mw, D.y1 + nh⟩ = hei D := by unfold hei; dsimp only; congr 1; omega
    unfold img
    rw [hw, hh]
    apply List.map_congr_left
    intro i _
    dsimp only
    unfold tileG
    have e1 : D.x0 + mw + ((i % wid D : Nat) : Int) = D.x0 + ((i % wid D : Nat) : Int) + (T.x1 - T.x0) * m := by rw [Int.mul_comm, hm]; omega
    have e2 : D.y0 + nh + ((i / wid D : Nat) : Int) = D.y0 + ((i / wid D : Nat) : Int) + (T.y1 - T.y0) * n := by rw [Int.mul_comm, hn]; omega
    rw [e1, e2, inT_far, inT_far]
  · rw [orN_yes (by rw [he, h]), orN_yes h]
theorem mul_hundred {m w : Int} (h1 : -100 ≤ m) (h2 : m ≤ 100) (h3 : 0 < w) (h4 : w ≤ 1000) : -100000 ≤ m * w ∧ m * w ≤ 100000 := by
  have a := Int.mul_le_mul_of_nonneg_right h2 (by omega : (0 : Int) ≤ w)
  have b := Int.mul_le_mul_of_nonneg_right h1 (by omega : (0 : Int) ≤ w)
  omega
/-- what stands while it is looked through -/
structure Lt (W : World) (B D T : R) (ao : Option Addr) (n m : Nat) (k14 k15 cn : Nat) (Q E : R) (co : Option Addr) (cm cg coff : Nat) (eo : Option Addr) (em eg eoff : Nat) (l : List X) (wr : World) : Prop where
  x : Kt W B ao n m D T wr
  c : Has5 wr k14 Q co cn cm
  e : Has5 wr k15 E eo cn em
  vc : Vx wr co cn cm cg coff l
  ve : Vx wr eo cn em eg eoff l
theorem Lt.below {W : World} {B D T : R} {ao : Option Addr} {n m : Nat} {k14 k15 cn : Nat} {Q E : R} {co : Option Addr} {cm cg coff : Nat} {eo : Option Addr} {em eg eoff : Nat} {l : List X} {wr wr' : World} (h : Lt W B D T ao n m k14 k15 cn Q E co cm cg coff eo em eg eoff l wr) (hb : Below wr.heap.size wr wr') : Lt W B D T ao n m k14 k15 cn Q E co cm cg coff eo em eg eoff l wr' := ⟨h.x.below hb, h.c.below hb, h.e.below hb, h.vc.below hb, h.ve.below hb⟩

set_option maxRecDepth 100000 in
set_option maxHeartbeats 8000000 in
theorem walk (B : R) (ao : Option Addr) (n m g off : Nat) (l : List X) (D T : R) (j k : Int) (W : World) (h : Vx W ao n m g off l) (hp : ∀ p, p ∈ l → byteX p) :
    Calls Try.prog 6 #[.agg #[.int .i64 B.x0, .int .i64 B.y0, .int .i64 B.x1, .int .i64 B.y1, .slice ao n m], .agg #[.int .i64 D.x0, .int .i64 D.y0, .int .i64 D.x1, .int .i64 D.y1], .agg #[.int .i64 T.x0, .int .i64 T.y0, .int .i64 T.x1, .int .i64 T.y1], .int .i64 j, .int .i64 k] W fun e w' => e = .returned (.bool true) ∧ Below W.heap.size W w' := by
  have hn := vx_small h
  have HV := hid h
  have HX : Hid (Kt W B ao n m D T ((((W.alloc (.cells #[.int .i64 B.x0, .int .i64 B.y0, .int .i64 B.x1, .int .i64 B.y1, .slice ao n m] 26)).alloc (.cells #[.int .i64 D.x0, .int .i64 D.y0, .int .i64 D.x1, .int .i64 D.y1] 23)).alloc (.cells #[.int .i64 T.x0, .int .i64 T.y0, .int .i64 T.x1, .int .i64 T.y1] 23)))) := kt_new W B ao n m D T
  obtain ⟨b0, b1, b2, b3, b4, bf⟩ := HX.out.b
  obtain ⟨d0, d1, d2, d3, df⟩ := HX.out.d
  obtain ⟨t0, t1, t2, t3, tf⟩ := HX.out.t
  rcases h1 : rightT B n l with _ | _
  · have HR := hid (And.intro h1 (And.intro trivial (And.intro trivial (trivial))))
    clear h1 h hp
    go_enter Try.func6, Try.ntmps6
    go_wp2_with (first
      | (go_at_call 9; with_reducible refine Calls.mono (awake_any _) ?_; rintro e wc ⟨rfl, hb⟩; replace HX := hid (HX.out.below hb); clear hb; clear b0 b1 b2 b3 b4 bf d0 d1 d2 d3 df t0 t1 t2 t3 tf; obtain ⟨b0, b1, b2, b3, b4, bf⟩ := HX.out.b; obtain ⟨d0, d1, d2, d3, df⟩ := HX.out.d; obtain ⟨t0, t1, t2, t3, tf⟩ := HX.out.t)
      | (go_at_call 10; with_reducible refine Calls.mono (right10_any B ao n m g off _ _ (HV.out.below HX.out.low)) ?_; rintro e wc ⟨rfl, hb⟩; rw [HR.out.1]; replace HX := hid (HX.out.below hb); clear hb; clear b0 b1 b2 b3 b4 bf d0 d1 d2 d3 df t0 t1 t2 t3 tf; obtain ⟨b0, b1, b2, b3, b4, bf⟩ := HX.out.b; obtain ⟨d0, d1, d2, d3, df⟩ := HX.out.d; obtain ⟨t0, t1, t2, t3, tf⟩ := HX.out.t)
      | (go_at_call 11; with_reducible refine Calls.mono (box_law D _) ?_; rintro e wc ⟨rfl, hb⟩; rw [HR.out.2.1]; replace HX := hid (HX.out.below hb); clear hb; clear b0 b1 b2 b3 b4 bf d0 d1 d2 d3 df t0 t1 t2 t3 tf; obtain ⟨b0, b1, b2, b3, b4, bf⟩ := HX.out.b; obtain ⟨d0, d1, d2, d3, df⟩ := HX.out.d; obtain ⟨t0, t1, t2, t3, tf⟩ := HX.out.t)
      | (go_at_call 15; with_reducible refine Calls.mono (Rc.refEmpty_any T.x0 T.y0 T.x1 T.y1 _) ?_; rintro e wc ⟨rfl, hb⟩; rw [HR.out.2.2.1]; replace HX := hid (HX.out.below hb); clear hb; clear b0 b1 b2 b3 b4 bf d0 d1 d2 d3 df t0 t1 t2 t3 tf; obtain ⟨b0, b1, b2, b3, b4, bf⟩ := HX.out.b; obtain ⟨d0, d1, d2, d3, df⟩ := HX.out.d; obtain ⟨t0, t1, t2, t3, tf⟩ := HX.out.t)
      | (go_at_call 16; with_reducible refine Calls.mono (halfB_any T.x0 T.y0 T.x1 T.y1 _) ?_; rintro e wc ⟨rfl, hb⟩; rw [HR.out.2.2.2]; replace HX := hid (HX.out.below hb); clear hb; clear b0 b1 b2 b3 b4 bf d0 d1 d2 d3 df t0 t1 t2 t3 tf; obtain ⟨b0, b1, b2, b3, b4, bf⟩ := HX.out.b; obtain ⟨d0, d1, d2, d3, df⟩ := HX.out.d; obtain ⟨t0, t1, t2, t3, tf⟩ := HX.out.t))
    go_ret
    exact ⟨rfl, HX.out.low⟩
  rcases h2 : fineF D 0 0 400 with _ | _
  · have HR := hid (And.intro h1 (And.intro h2 (And.intro trivial (trivial))))
    clear h1 h2 h hp
    go_enter Try.func6, Try.ntmps6
    go_wp2_with (first
      | (go_at_call 9; with_reducible refine Calls.mono (awake_any _) ?_; rintro e wc ⟨rfl, hb⟩; replace HX := hid (HX.out.below hb); clear hb; clear b0 b1 b2 b3 b4 bf d0 d1 d2 d3 df t0 t1 t2 t3 tf; obtain ⟨b0, b1, b2, b3, b4, bf⟩ := HX.out.b; obtain ⟨d0, d1, d2, d3, df⟩ := HX.out.d; obtain ⟨t0, t1, t2, t3, tf⟩ := HX.out.t)
      | (go_at_call 10; with_reducible refine Calls.mono (right10_any B ao n m g off _ _ (HV.out.below HX.out.low)) ?_; rintro e wc ⟨rfl, hb⟩; rw [HR.out.1]; replace HX := hid (HX.out.below hb); clear hb; clear b0 b1 b2 b3 b4 bf d0 d1 d2 d3 df t0 t1 t2 t3 tf; obtain ⟨b0, b1, b2, b3, b4, bf⟩ := HX.out.b; obtain ⟨d0, d1, d2, d3, df⟩ := HX.out.d; obtain ⟨t0, t1, t2, t3, tf⟩ := HX.out.t)
      | (go_at_call 11; with_reducible refine Calls.mono (box_law D _) ?_; rintro e wc ⟨rfl, hb⟩; rw [HR.out.2.1]; replace HX := hid (HX.out.below hb); clear hb; clear b0 b1 b2 b3 b4 bf d0 d1 d2 d3 df t0 t1 t2 t3 tf; obtain ⟨b0, b1, b2, b3, b4, bf⟩ := HX.out.b; obtain ⟨d0, d1, d2, d3, df⟩ := HX.out.d; obtain ⟨t0, t1, t2, t3, tf⟩ := HX.out.t)
      | (go_at_call 15; with_reducible refine Calls.mono (Rc.refEmpty_any T.x0 T.y0 T.x1 T.y1 _) ?_; rintro e wc ⟨rfl, hb⟩; rw [HR.out.2.2.1]; replace HX := hid (HX.out.below hb); clear hb; clear b0 b1 b2 b3 b4 bf d0 d1 d2 d3 df t0 t1 t2 t3 tf; obtain ⟨b0, b1, b2, b3, b4, bf⟩ := HX.out.b; obtain ⟨d0, d1, d2, d3, df⟩ := HX.out.d; obtain ⟨t0, t1, t2, t3, tf⟩ := HX.out.t)
      | (go_at_call 16; with_reducible refine Calls.mono (halfB_any T.x0 T.y0 T.x1 T.y1 _) ?_; rintro e wc ⟨rfl, hb⟩; rw [HR.out.2.2.2]; replace HX := hid (HX.out.below hb); clear hb; clear b0 b1 b2 b3 b4 bf d0 d1 d2 d3 df t0 t1 t2 t3 tf; obtain ⟨b0, b1, b2, b3, b4, bf⟩ := HX.out.b; obtain ⟨d0, d1, d2, d3, df⟩ := HX.out.d; obtain ⟨t0, t1, t2, t3, tf⟩ := HX.out.t))
    go_ret
    exact ⟨rfl, HX.out.low⟩
  by_cases h3' : empB ⟨T.x0, T.y0, T.x1, T.y1⟩ = true
  · have h3 := h3'
    have HR := hid (And.intro h1 (And.intro h2 (And.intro h3 (trivial))))
    clear h1 h2 h3 h3' h hp
    go_enter Try.func6, Try.ntmps6
    go_wp2_with (first
      | (go_at_call 9; with_reducible refine Calls.mono (awake_any _) ?_; rintro e wc ⟨rfl, hb⟩; replace HX := hid (HX.out.below hb); clear hb; clear b0 b1 b2 b3 b4 bf d0 d1 d2 d3 df t0 t1 t2 t3 tf; obtain ⟨b0, b1, b2, b3, b4, bf⟩ := HX.out.b; obtain ⟨d0, d1, d2, d3, df⟩ := HX.out.d; obtain ⟨t0, t1, t2, t3, tf⟩ := HX.out.t)
      | (go_at_call 10; with_reducible refine Calls.mono (right10_any B ao n m g off _ _ (HV.out.below HX.out.low)) ?_; rintro e wc ⟨rfl, hb⟩; rw [HR.out.1]; replace HX := hid (HX.out.below hb); clear hb; clear b0 b1 b2 b3 b4 bf d0 d1 d2 d3 df t0 t1 t2 t3 tf; obtain ⟨b0, b1, b2, b3, b4, bf⟩ := HX.out.b; obtain ⟨d0, d1, d2, d3, df⟩ := HX.out.d; obtain ⟨t0, t1, t2, t3, tf⟩ := HX.out.t)
      | (go_at_call 11; with_reducible refine Calls.mono (box_law D _) ?_; rintro e wc ⟨rfl, hb⟩; rw [HR.out.2.1]; replace HX := hid (HX.out.below hb); clear hb; clear b0 b1 b2 b3 b4 bf d0 d1 d2 d3 df t0 t1 t2 t3 tf; obtain ⟨b0, b1, b2, b3, b4, bf⟩ := HX.out.b; obtain ⟨d0, d1, d2, d3, df⟩ := HX.out.d; obtain ⟨t0, t1, t2, t3, tf⟩ := HX.out.t)
      | (go_at_call 15; with_reducible refine Calls.mono (Rc.refEmpty_any T.x0 T.y0 T.x1 T.y1 _) ?_; rintro e wc ⟨rfl, hb⟩; rw [HR.out.2.2.1]; replace HX := hid (HX.out.below hb); clear hb; clear b0 b1 b2 b3 b4 bf d0 d1 d2 d3 df t0 t1 t2 t3 tf; obtain ⟨b0, b1, b2, b3, b4, bf⟩ := HX.out.b; obtain ⟨d0, d1, d2, d3, df⟩ := HX.out.d; obtain ⟨t0, t1, t2, t3, tf⟩ := HX.out.t)
      | (go_at_call 16; with_reducible refine Calls.mono (halfB_any T.x0 T.y0 T.x1 T.y1 _) ?_; rintro e wc ⟨rfl, hb⟩; rw [HR.out.2.2.2]; replace HX := hid (HX.out.below hb); clear hb; clear b0 b1 b2 b3 b4 bf d0 d1 d2 d3 df t0 t1 t2 t3 tf; obtain ⟨b0, b1, b2, b3, b4, bf⟩ := HX.out.b; obtain ⟨d0, d1, d2, d3, df⟩ := HX.out.d; obtain ⟨t0, t1, t2, t3, tf⟩ := HX.out.t))
    go_ret
    exact ⟨rfl, HX.out.low⟩
  have h3 : empB ⟨T.x0, T.y0, T.x1, T.y1⟩ = false := by simpa using h3'
  clear h3'
  rcases h4 : halfB ⟨T.x0, T.y0, T.x1, T.y1⟩ with _ | _
  · have HR := hid (And.intro h1 (And.intro h2 (And.intro h3 (h4))))
    clear h1 h2 h3 h4 h hp
    go_enter Try.func6, Try.ntmps6
    go_wp2_with (first
      | (go_at_call 9; with_reducible refine Calls.mono (awake_any _) ?_; rintro e wc ⟨rfl, hb⟩; replace HX := hid (HX.out.below hb); clear hb; clear b0 b1 b2 b3 b4 bf d0 d1 d2 d3 df t0 t1 t2 t3 tf; obtain ⟨b0, b1, b2, b3, b4, bf⟩ := HX.out.b; obtain ⟨d0, d1, d2, d3, df⟩ := HX.out.d; obtain ⟨t0, t1, t2, t3, tf⟩ := HX.out.t)
      | (go_at_call 10; with_reducible refine Calls.mono (right10_any B ao n m g off _ _ (HV.out.below HX.out.low)) ?_; rintro e wc ⟨rfl, hb⟩; rw [HR.out.1]; replace HX := hid (HX.out.below hb); clear hb; clear b0 b1 b2 b3 b4 bf d0 d1 d2 d3 df t0 t1 t2 t3 tf; obtain ⟨b0, b1, b2, b3, b4, bf⟩ := HX.out.b; obtain ⟨d0, d1, d2, d3, df⟩ := HX.out.d; obtain ⟨t0, t1, t2, t3, tf⟩ := HX.out.t)
      | (go_at_call 11; with_reducible refine Calls.mono (box_law D _) ?_; rintro e wc ⟨rfl, hb⟩; rw [HR.out.2.1]; replace HX := hid (HX.out.below hb); clear hb; clear b0 b1 b2 b3 b4 bf d0 d1 d2 d3 df t0 t1 t2 t3 tf; obtain ⟨b0, b1, b2, b3, b4, bf⟩ := HX.out.b; obtain ⟨d0, d1, d2, d3, df⟩ := HX.out.d; obtain ⟨t0, t1, t2, t3, tf⟩ := HX.out.t)
      | (go_at_call 15; with_reducible refine Calls.mono (Rc.refEmpty_any T.x0 T.y0 T.x1 T.y1 _) ?_; rintro e wc ⟨rfl, hb⟩; rw [HR.out.2.2.1]; replace HX := hid (HX.out.below hb); clear hb; clear b0 b1 b2 b3 b4 bf d0 d1 d2 d3 df t0 t1 t2 t3 tf; obtain ⟨b0, b1, b2, b3, b4, bf⟩ := HX.out.b; obtain ⟨d0, d1, d2, d3, df⟩ := HX.out.d; obtain ⟨t0, t1, t2, t3, tf⟩ := HX.out.t)
      | (go_at_call 16; with_reducible refine Calls.mono (halfB_any T.x0 T.y0 T.x1 T.y1 _) ?_; rintro e wc ⟨rfl, hb⟩; rw [HR.out.2.2.2]; replace HX := hid (HX.out.below hb); clear hb; clear b0 b1 b2 b3 b4 bf d0 d1 d2 d3 df t0 t1 t2 t3 tf; obtain ⟨b0, b1, b2, b3, b4, bf⟩ := HX.out.b; obtain ⟨d0, d1, d2, d3, df⟩ := HX.out.d; obtain ⟨t0, t1, t2, t3, tf⟩ := HX.out.t))
    go_ret
    exact ⟨rfl, HX.out.low⟩
  have HR := hid (And.intro h1 (And.intro h2 (And.intro h3 (h4))))
  have HG := gd_of h hp h1
  have HFB := fine_area h2
  have hTb := of_decide_eq_true h4
  have hTe := of_some h3
  clear h1 h2 h4 hp
  by_cases g1 : 100 < j
  · clear h h3 HG HFB
    go_enter Try.func6, Try.ntmps6
    go_wp2_with (first
      | (go_at_call 9; with_reducible refine Calls.mono (awake_any _) ?_; rintro e wc ⟨rfl, hb⟩; replace HX := hid (HX.out.below hb); clear hb; clear b0 b1 b2 b3 b4 bf d0 d1 d2 d3 df t0 t1 t2 t3 tf; obtain ⟨b0, b1, b2, b3, b4, bf⟩ := HX.out.b; obtain ⟨d0, d1, d2, d3, df⟩ := HX.out.d; obtain ⟨t0, t1, t2, t3, tf⟩ := HX.out.t)
      | (go_at_call 10; with_reducible refine Calls.mono (right10_any B ao n m g off _ _ (HV.out.below HX.out.low)) ?_; rintro e wc ⟨rfl, hb⟩; rw [HR.out.1]; replace HX := hid (HX.out.below hb); clear hb; clear b0 b1 b2 b3 b4 bf d0 d1 d2 d3 df t0 t1 t2 t3 tf; obtain ⟨b0, b1, b2, b3, b4, bf⟩ := HX.out.b; obtain ⟨d0, d1, d2, d3, df⟩ := HX.out.d; obtain ⟨t0, t1, t2, t3, tf⟩ := HX.out.t)
      | (go_at_call 11; with_reducible refine Calls.mono (box_law D _) ?_; rintro e wc ⟨rfl, hb⟩; rw [HR.out.2.1]; replace HX := hid (HX.out.below hb); clear hb; clear b0 b1 b2 b3 b4 bf d0 d1 d2 d3 df t0 t1 t2 t3 tf; obtain ⟨b0, b1, b2, b3, b4, bf⟩ := HX.out.b; obtain ⟨d0, d1, d2, d3, df⟩ := HX.out.d; obtain ⟨t0, t1, t2, t3, tf⟩ := HX.out.t)
      | (go_at_call 15; with_reducible refine Calls.mono (Rc.refEmpty_any T.x0 T.y0 T.x1 T.y1 _) ?_; rintro e wc ⟨rfl, hb⟩; rw [HR.out.2.2.1]; replace HX := hid (HX.out.below hb); clear hb; clear b0 b1 b2 b3 b4 bf d0 d1 d2 d3 df t0 t1 t2 t3 tf; obtain ⟨b0, b1, b2, b3, b4, bf⟩ := HX.out.b; obtain ⟨d0, d1, d2, d3, df⟩ := HX.out.d; obtain ⟨t0, t1, t2, t3, tf⟩ := HX.out.t)
      | (go_at_call 16; with_reducible refine Calls.mono (halfB_any T.x0 T.y0 T.x1 T.y1 _) ?_; rintro e wc ⟨rfl, hb⟩; rw [HR.out.2.2.2]; replace HX := hid (HX.out.below hb); clear hb; clear b0 b1 b2 b3 b4 bf d0 d1 d2 d3 df t0 t1 t2 t3 tf; obtain ⟨b0, b1, b2, b3, b4, bf⟩ := HX.out.b; obtain ⟨d0, d1, d2, d3, df⟩ := HX.out.d; obtain ⟨t0, t1, t2, t3, tf⟩ := HX.out.t))
    go_ret
    exact ⟨rfl, HX.out.low⟩
  by_cases g2 : j < -100
  · clear h h3 HG HFB
    go_enter Try.func6, Try.ntmps6
    go_wp2_with (first
      | (go_at_call 9; with_reducible refine Calls.mono (awake_any _) ?_; rintro e wc ⟨rfl, hb⟩; replace HX := hid (HX.out.below hb); clear hb; clear b0 b1 b2 b3 b4 bf d0 d1 d2 d3 df t0 t1 t2 t3 tf; obtain ⟨b0, b1, b2, b3, b4, bf⟩ := HX.out.b; obtain ⟨d0, d1, d2, d3, df⟩ := HX.out.d; obtain ⟨t0, t1, t2, t3, tf⟩ := HX.out.t)
      | (go_at_call 10; with_reducible refine Calls.mono (right10_any B ao n m g off _ _ (HV.out.below HX.out.low)) ?_; rintro e wc ⟨rfl, hb⟩; rw [HR.out.1]; replace HX := hid (HX.out.below hb); clear hb; clear b0 b1 b2 b3 b4 bf d0 d1 d2 d3 df t0 t1 t2 t3 tf; obtain ⟨b0, b1, b2, b3, b4, bf⟩ := HX.out.b; obtain ⟨d0, d1, d2, d3, df⟩ := HX.out.d; obtain ⟨t0, t1, t2, t3, tf⟩ := HX.out.t)
      | (go_at_call 11; with_reducible refine Calls.mono (box_law D _) ?_; rintro e wc ⟨rfl, hb⟩; rw [HR.out.2.1]; replace HX := hid (HX.out.below hb); clear hb; clear b0 b1 b2 b3 b4 bf d0 d1 d2 d3 df t0 t1 t2 t3 tf; obtain ⟨b0, b1, b2, b3, b4, bf⟩ := HX.out.b; obtain ⟨d0, d1, d2, d3, df⟩ := HX.out.d; obtain ⟨t0, t1, t2, t3, tf⟩ := HX.out.t)
      | (go_at_call 15; with_reducible refine Calls.mono (Rc.refEmpty_any T.x0 T.y0 T.x1 T.y1 _) ?_; rintro e wc ⟨rfl, hb⟩; rw [HR.out.2.2.1]; replace HX := hid (HX.out.below hb); clear hb; clear b0 b1 b2 b3 b4 bf d0 d1 d2 d3 df t0 t1 t2 t3 tf; obtain ⟨b0, b1, b2, b3, b4, bf⟩ := HX.out.b; obtain ⟨d0, d1, d2, d3, df⟩ := HX.out.d; obtain ⟨t0, t1, t2, t3, tf⟩ := HX.out.t)
      | (go_at_call 16; with_reducible refine Calls.mono (halfB_any T.x0 T.y0 T.x1 T.y1 _) ?_; rintro e wc ⟨rfl, hb⟩; rw [HR.out.2.2.2]; replace HX := hid (HX.out.below hb); clear hb; clear b0 b1 b2 b3 b4 bf d0 d1 d2 d3 df t0 t1 t2 t3 tf; obtain ⟨b0, b1, b2, b3, b4, bf⟩ := HX.out.b; obtain ⟨d0, d1, d2, d3, df⟩ := HX.out.d; obtain ⟨t0, t1, t2, t3, tf⟩ := HX.out.t))
    go_ret
    exact ⟨rfl, HX.out.low⟩
  by_cases g3 : 100 < k
  · clear h h3 HG HFB
    go_enter Try.func6, Try.ntmps6
    go_wp2_with (first
      | (go_at_call 9; with_reducible refine Calls.mono (awake_any _) ?_; rintro e wc ⟨rfl, hb⟩; replace HX := hid (HX.out.below hb); clear hb; clear b0 b1 b2 b3 b4 bf d0 d1 d2 d3 df t0 t1 t2 t3 tf; obtain ⟨b0, b1, b2, b3, b4, bf⟩ := HX.out.b; obtain ⟨d0, d1, d2, d3, df⟩ := HX.out.d; obtain ⟨t0, t1, t2, t3, tf⟩ := HX.out.t)
      | (go_at_call 10; with_reducible refine Calls.mono (right10_any B ao n m g off _ _ (HV.out.below HX.out.low)) ?_; rintro e wc ⟨rfl, hb⟩; rw [HR.out.1]; replace HX := hid (HX.out.below hb); clear hb; clear b0 b1 b2 b3 b4 bf d0 d1 d2 d3 df t0 t1 t2 t3 tf; obtain ⟨b0, b1, b2, b3, b4, bf⟩ := HX.out.b; obtain ⟨d0, d1, d2, d3, df⟩ := HX.out.d; obtain ⟨t0, t1, t2, t3, tf⟩ := HX.out.t)
      | (go_at_call 11; with_reducible refine Calls.mono (box_law D _) ?_; rintro e wc ⟨rfl, hb⟩; rw [HR.out.2.1]; replace HX := hid (HX.out.below hb); clear hb; clear b0 b1 b2 b3 b4 bf d0 d1 d2 d3 df t0 t1 t2 t3 tf; obtain ⟨b0, b1, b2, b3, b4, bf⟩ := HX.out.b; obtain ⟨d0, d1, d2, d3, df⟩ := HX.out.d; obtain ⟨t0, t1, t2, t3, tf⟩ := HX.out.t)
      | (go_at_call 15; with_reducible refine Calls.mono (Rc.refEmpty_any T.x0 T.y0 T.x1 T.y1 _) ?_; rintro e wc ⟨rfl, hb⟩; rw [HR.out.2.2.1]; replace HX := hid (HX.out.below hb); clear hb; clear b0 b1 b2 b3 b4 bf d0 d1 d2 d3 df t0 t1 t2 t3 tf; obtain ⟨b0, b1, b2, b3, b4, bf⟩ := HX.out.b; obtain ⟨d0, d1, d2, d3, df⟩ := HX.out.d; obtain ⟨t0, t1, t2, t3, tf⟩ := HX.out.t)
      | (go_at_call 16; with_reducible refine Calls.mono (halfB_any T.x0 T.y0 T.x1 T.y1 _) ?_; rintro e wc ⟨rfl, hb⟩; rw [HR.out.2.2.2]; replace HX := hid (HX.out.below hb); clear hb; clear b0 b1 b2 b3 b4 bf d0 d1 d2 d3 df t0 t1 t2 t3 tf; obtain ⟨b0, b1, b2, b3, b4, bf⟩ := HX.out.b; obtain ⟨d0, d1, d2, d3, df⟩ := HX.out.d; obtain ⟨t0, t1, t2, t3, tf⟩ := HX.out.t))
    go_ret
    exact ⟨rfl, HX.out.low⟩
  by_cases g4 : k < -100
  · clear h h3 HG HFB
    go_enter Try.func6, Try.ntmps6
    go_wp2_with (first
      | (go_at_call 9; with_reducible refine Calls.mono (awake_any _) ?_; rintro e wc ⟨rfl, hb⟩; replace HX := hid (HX.out.below hb); clear hb; clear b0 b1 b2 b3 b4 bf d0 d1 d2 d3 df t0 t1 t2 t3 tf; obtain ⟨b0, b1, b2, b3, b4, bf⟩ := HX.out.b; obtain ⟨d0, d1, d2, d3, df⟩ := HX.out.d; obtain ⟨t0, t1, t2, t3, tf⟩ := HX.out.t)
      | (go_at_call 10; with_reducible refine Calls.mono (right10_any B ao n m g off _ _ (HV.out.below HX.out.low)) ?_; rintro e wc ⟨rfl, hb⟩; rw [HR.out.1]; replace HX := hid (HX.out.below hb); clear hb; clear b0 b1 b2 b3 b4 bf d0 d1 d2 d3 df t0 t1 t2 t3 tf; obtain ⟨b0, b1, b2, b3, b4, bf⟩ := HX.out.b; obtain ⟨d0, d1, d2, d3, df⟩ := HX.out.d; obtain ⟨t0, t1, t2, t3, tf⟩ := HX.out.t)
      | (go_at_call 11; with_reducible refine Calls.mono (box_law D _) ?_; rintro e wc ⟨rfl, hb⟩; rw [HR.out.2.1]; replace HX := hid (HX.out.below hb); clear hb; clear b0 b1 b2 b3 b4 bf d0 d1 d2 d3 df t0 t1 t2 t3 tf; obtain ⟨b0, b1, b2, b3, b4, bf⟩ := HX.out.b; obtain ⟨d0, d1, d2, d3, df⟩ := HX.out.d; obtain ⟨t0, t1, t2, t3, tf⟩ := HX.out.t)
      | (go_at_call 15; with_reducible refine Calls.mono (Rc.refEmpty_any T.x0 T.y0 T.x1 T.y1 _) ?_; rintro e wc ⟨rfl, hb⟩; rw [HR.out.2.2.1]; replace HX := hid (HX.out.below hb); clear hb; clear b0 b1 b2 b3 b4 bf d0 d1 d2 d3 df t0 t1 t2 t3 tf; obtain ⟨b0, b1, b2, b3, b4, bf⟩ := HX.out.b; obtain ⟨d0, d1, d2, d3, df⟩ := HX.out.d; obtain ⟨t0, t1, t2, t3, tf⟩ := HX.out.t)
      | (go_at_call 16; with_reducible refine Calls.mono (halfB_any T.x0 T.y0 T.x1 T.y1 _) ?_; rintro e wc ⟨rfl, hb⟩; rw [HR.out.2.2.2]; replace HX := hid (HX.out.below hb); clear hb; clear b0 b1 b2 b3 b4 bf d0 d1 d2 d3 df t0 t1 t2 t3 tf; obtain ⟨b0, b1, b2, b3, b4, bf⟩ := HX.out.b; obtain ⟨d0, d1, d2, d3, df⟩ := HX.out.d; obtain ⟨t0, t1, t2, t3, tf⟩ := HX.out.t))
    go_ret
    exact ⟨rfl, HX.out.low⟩
  obtain ⟨e1, e2⟩ := hTe
  dsimp only at e1 e2
  by_cases g5 : 1000 < T.x1 - T.x0
  · clear h h3 HG HFB
    obtain ⟨⟨⟨a0, a1⟩, a2, a3⟩, -⟩ := hTb
    dsimp only at a0 a1 a2 a3
    go_enter Try.func6, Try.ntmps6
    go_wp2_with (first
      | (go_at_call 9; with_reducible refine Calls.mono (awake_any _) ?_; rintro e wc ⟨rfl, hb⟩; replace HX := hid (HX.out.below hb); clear hb; clear b0 b1 b2 b3 b4 bf d0 d1 d2 d3 df t0 t1 t2 t3 tf; obtain ⟨b0, b1, b2, b3, b4, bf⟩ := HX.out.b; obtain ⟨d0, d1, d2, d3, df⟩ := HX.out.d; obtain ⟨t0, t1, t2, t3, tf⟩ := HX.out.t)
      | (go_at_call 10; with_reducible refine Calls.mono (right10_any B ao n m g off _ _ (HV.out.below HX.out.low)) ?_; rintro e wc ⟨rfl, hb⟩; rw [HR.out.1]; replace HX := hid (HX.out.below hb); clear hb; clear b0 b1 b2 b3 b4 bf d0 d1 d2 d3 df t0 t1 t2 t3 tf; obtain ⟨b0, b1, b2, b3, b4, bf⟩ := HX.out.b; obtain ⟨d0, d1, d2, d3, df⟩ := HX.out.d; obtain ⟨t0, t1, t2, t3, tf⟩ := HX.out.t)
      | (go_at_call 11; with_reducible refine Calls.mono (box_law D _) ?_; rintro e wc ⟨rfl, hb⟩; rw [HR.out.2.1]; replace HX := hid (HX.out.below hb); clear hb; clear b0 b1 b2 b3 b4 bf d0 d1 d2 d3 df t0 t1 t2 t3 tf; obtain ⟨b0, b1, b2, b3, b4, bf⟩ := HX.out.b; obtain ⟨d0, d1, d2, d3, df⟩ := HX.out.d; obtain ⟨t0, t1, t2, t3, tf⟩ := HX.out.t)
      | (go_at_call 15; with_reducible refine Calls.mono (Rc.refEmpty_any T.x0 T.y0 T.x1 T.y1 _) ?_; rintro e wc ⟨rfl, hb⟩; rw [HR.out.2.2.1]; replace HX := hid (HX.out.below hb); clear hb; clear b0 b1 b2 b3 b4 bf d0 d1 d2 d3 df t0 t1 t2 t3 tf; obtain ⟨b0, b1, b2, b3, b4, bf⟩ := HX.out.b; obtain ⟨d0, d1, d2, d3, df⟩ := HX.out.d; obtain ⟨t0, t1, t2, t3, tf⟩ := HX.out.t)
      | (go_at_call 16; with_reducible refine Calls.mono (halfB_any T.x0 T.y0 T.x1 T.y1 _) ?_; rintro e wc ⟨rfl, hb⟩; rw [HR.out.2.2.2]; replace HX := hid (HX.out.below hb); clear hb; clear b0 b1 b2 b3 b4 bf d0 d1 d2 d3 df t0 t1 t2 t3 tf; obtain ⟨b0, b1, b2, b3, b4, bf⟩ := HX.out.b; obtain ⟨d0, d1, d2, d3, df⟩ := HX.out.d; obtain ⟨t0, t1, t2, t3, tf⟩ := HX.out.t))
    go_ret
    exact ⟨rfl, HX.out.low⟩
  by_cases g6 : 1000 < T.y1 - T.y0
  · clear h h3 HG HFB
    obtain ⟨⟨⟨a0, a1⟩, a2, a3⟩, -⟩ := hTb
    dsimp only at a0 a1 a2 a3
    go_enter Try.func6, Try.ntmps6
    go_wp2_with (first
      | (go_at_call 9; with_reducible refine Calls.mono (awake_any _) ?_; rintro e wc ⟨rfl, hb⟩; replace HX := hid (HX.out.below hb); clear hb; clear b0 b1 b2 b3 b4 bf d0 d1 d2 d3 df t0 t1 t2 t3 tf; obtain ⟨b0, b1, b2, b3, b4, bf⟩ := HX.out.b; obtain ⟨d0, d1, d2, d3, df⟩ := HX.out.d; obtain ⟨t0, t1, t2, t3, tf⟩ := HX.out.t)
      | (go_at_call 10; with_reducible refine Calls.mono (right10_any B ao n m g off _ _ (HV.out.below HX.out.low)) ?_; rintro e wc ⟨rfl, hb⟩; rw [HR.out.1]; replace HX := hid (HX.out.below hb); clear hb; clear b0 b1 b2 b3 b4 bf d0 d1 d2 d3 df t0 t1 t2 t3 tf; obtain ⟨b0, b1, b2, b3, b4, bf⟩ := HX.out.b; obtain ⟨d0, d1, d2, d3, df⟩ := HX.out.d; obtain ⟨t0, t1, t2, t3, tf⟩ := HX.out.t)
      | (go_at_call 11; with_reducible refine Calls.mono (box_law D _) ?_; rintro e wc ⟨rfl, hb⟩; rw [HR.out.2.1]; replace HX := hid (HX.out.below hb); clear hb; clear b0 b1 b2 b3 b4 bf d0 d1 d2 d3 df t0 t1 t2 t3 tf; obtain ⟨b0, b1, b2, b3, b4, bf⟩ := HX.out.b; obtain ⟨d0, d1, d2, d3, df⟩ := HX.out.d; obtain ⟨t0, t1, t2, t3, tf⟩ := HX.out.t)
      | (go_at_call 15; with_reducible refine Calls.mono (Rc.refEmpty_any T.x0 T.y0 T.x1 T.y1 _) ?_; rintro e wc ⟨rfl, hb⟩; rw [HR.out.2.2.1]; replace HX := hid (HX.out.below hb); clear hb; clear b0 b1 b2 b3 b4 bf d0 d1 d2 d3 df t0 t1 t2 t3 tf; obtain ⟨b0, b1, b2, b3, b4, bf⟩ := HX.out.b; obtain ⟨d0, d1, d2, d3, df⟩ := HX.out.d; obtain ⟨t0, t1, t2, t3, tf⟩ := HX.out.t)
      | (go_at_call 16; with_reducible refine Calls.mono (halfB_any T.x0 T.y0 T.x1 T.y1 _) ?_; rintro e wc ⟨rfl, hb⟩; rw [HR.out.2.2.2]; replace HX := hid (HX.out.below hb); clear hb; clear b0 b1 b2 b3 b4 bf d0 d1 d2 d3 df t0 t1 t2 t3 tf; obtain ⟨b0, b1, b2, b3, b4, bf⟩ := HX.out.b; obtain ⟨d0, d1, d2, d3, df⟩ := HX.out.d; obtain ⟨t0, t1, t2, t3, tf⟩ := HX.out.t))
    go_ret
    exact ⟨rfl, HX.out.low⟩
  obtain ⟨mw, hmw⟩ : ∃ q, j * (T.x1 - T.x0) = q := ⟨_, rfl⟩
  obtain ⟨nh, hnh⟩ : ∃ q, k * (T.y1 - T.y0) = q := ⟨_, rfl⟩
  have hmwb := mul_hundred (m := j) (w := T.x1 - T.x0) (by omega) (by omega) (by omega) (by omega)
  have hnhb := mul_hundred (m := k) (w := T.y1 - T.y0) (by omega) (by omega) (by omega) (by omega)
  rw [hmw] at hmwb
  rw [hnh] at hnhb
  obtain ⟨⟨⟨a0, a1⟩, a2, a3⟩, -⟩ := hTb
  dsimp only at a0 a1 a2 a3
  obtain ⟨⟨d5, d6⟩, ⟨d7, d8⟩, ⟨d9, d10⟩, d11, d12⟩ := HFB.1
  obtain ⟨mw0, mw1⟩ := hmwb
  obtain ⟨nh0, nh1⟩ := hnhb
  rcases hF : fineF ⟨D.x0 + mw, D.y0 + nh, D.x1 + mw, D.y1 + nh⟩ 0 0 400 with _ | _
  · have HF := hid hF
    clear hF h h3 HG HFB
    go_enter Try.func6, Try.ntmps6
    go_wp2_with (first
      | (go_at_call 9; with_reducible refine Calls.mono (awake_any _) ?_; rintro e wc ⟨rfl, hb⟩; replace HX := hid (HX.out.below hb); clear hb; clear b0 b1 b2 b3 b4 bf d0 d1 d2 d3 df t0 t1 t2 t3 tf; obtain ⟨b0, b1, b2, b3, b4, bf⟩ := HX.out.b; obtain ⟨d0, d1, d2, d3, df⟩ := HX.out.d; obtain ⟨t0, t1, t2, t3, tf⟩ := HX.out.t)
      | (go_at_call 10; with_reducible refine Calls.mono (right10_any B ao n m g off _ _ (HV.out.below HX.out.low)) ?_; rintro e wc ⟨rfl, hb⟩; rw [HR.out.1]; replace HX := hid (HX.out.below hb); clear hb; clear b0 b1 b2 b3 b4 bf d0 d1 d2 d3 df t0 t1 t2 t3 tf; obtain ⟨b0, b1, b2, b3, b4, bf⟩ := HX.out.b; obtain ⟨d0, d1, d2, d3, df⟩ := HX.out.d; obtain ⟨t0, t1, t2, t3, tf⟩ := HX.out.t)
      | (go_at_call 11; with_reducible refine Calls.mono (box_law D _) ?_; (fail_if_success have := D1); rintro e wc ⟨rfl, hb⟩; rw [HR.out.2.1]; have D1 := hid trivial; replace HX := hid (HX.out.below hb); clear hb; clear b0 b1 b2 b3 b4 bf d0 d1 d2 d3 df t0 t1 t2 t3 tf; obtain ⟨b0, b1, b2, b3, b4, bf⟩ := HX.out.b; obtain ⟨d0, d1, d2, d3, df⟩ := HX.out.d; obtain ⟨t0, t1, t2, t3, tf⟩ := HX.out.t)
      | (go_at_call 15; with_reducible refine Calls.mono (Rc.refEmpty_any T.x0 T.y0 T.x1 T.y1 _) ?_; rintro e wc ⟨rfl, hb⟩; rw [HR.out.2.2.1]; replace HX := hid (HX.out.below hb); clear hb; clear b0 b1 b2 b3 b4 bf d0 d1 d2 d3 df t0 t1 t2 t3 tf; obtain ⟨b0, b1, b2, b3, b4, bf⟩ := HX.out.b; obtain ⟨d0, d1, d2, d3, df⟩ := HX.out.d; obtain ⟨t0, t1, t2, t3, tf⟩ := HX.out.t)
      | (go_at_call 16; with_reducible refine Calls.mono (halfB_any T.x0 T.y0 T.x1 T.y1 _) ?_; rintro e wc ⟨rfl, hb⟩; rw [HR.out.2.2.2]; replace HX := hid (HX.out.below hb); clear hb; clear b0 b1 b2 b3 b4 bf d0 d1 d2 d3 df t0 t1 t2 t3 tf; obtain ⟨b0, b1, b2, b3, b4, bf⟩ := HX.out.b; obtain ⟨d0, d1, d2, d3, df⟩ := HX.out.d; obtain ⟨t0, t1, t2, t3, tf⟩ := HX.out.t)
      | (go_at_call 11; with_reducible refine Calls.mono (box4 (D.x0 + mw) (D.y0 + nh) (D.x1 + mw) (D.y1 + nh) _) ?_; rintro e we ⟨rfl, hb⟩; rw [HF.out]; replace HX := hid ((HX.out.below ((Below.refl _ _).alloc (Nat.le_refl _) (.cells #[.int .i64 (D.x0 + mw), .int .i64 (D.y0 + nh), .int .i64 (D.x1 + mw), .int .i64 (D.y1 + nh)] 23))).below hb)))
    go_ret
    exact ⟨rfl, HX.out.low⟩
  have HF := hid hF
  have HFE := fine_area hF
  obtain ⟨f, hf⟩ : ∃ f, f = unimg B l := ⟨_, rfl⟩
  have e3 := HG.im
  rw [← hf] at e3
  have HEQ : Hid (img (orN ⟨D.x0 + mw, D.y0 + nh, D.x1 + mw, D.y1 + nh⟩) (tileG T (atX B f)) = img (orN D) (tileG T (atX B f))) := tiles_same hmw hnh
  have HU : Hid (n ≤ 5000 ∧ bufB B n = true ∧ Ok B ∧ area D ≤ 5000 ∧ area ⟨D.x0 + mw, D.y0 + nh, D.x1 + mw, D.y1 + nh⟩ ≤ 5000) := ⟨by have := HG.n3; omega, HG.buf, HG.ok, by have := HFB.2; omega, by have := HFE.2; omega⟩
  have HDH : Hid ((-33554432 ≤ D.x0 ∧ D.x0 ≤ 33554432) ∧ (-33554432 ≤ D.y0 ∧ D.y0 ≤ 33554432) ∧ (-33554432 ≤ D.x1 ∧ D.x1 ≤ 33554432) ∧ (-33554432 ≤ D.y1 ∧ D.y1 ≤ 33554432)) := HFB.1
  have HEH : Hid ((-33554432 ≤ D.x0 + mw ∧ D.x0 + mw ≤ 33554432) ∧ (-33554432 ≤ D.y0 + nh ∧ D.y0 + nh ≤ 33554432) ∧ (-33554432 ≤ D.x1 + mw ∧ D.x1 + mw ≤ 33554432) ∧ (-33554432 ≤ D.y1 + nh ∧ D.y1 + nh ≤ 33554432)) := HFE.1
  have HTB : Hid (((-33554432 ≤ T.x0 ∧ -33554432 ≤ T.y0) ∧ (T.x1 ≤ 33554432 ∧ T.y1 ≤ 33554432)) ∧ empB T = false) := ⟨⟨⟨a0, a1⟩, a2, a3⟩, h3⟩
  have HQ5 := hid (buf_new HFB.1.ok (show area D ≤ 5000 by have := HFB.2; omega))
  have HQO := hid (ok_orN HFB.1.ok)
  clear HG HFB HFE hf hF h3
  subst e3
  clear h
  go_enter Try.func6, Try.ntmps6
  go_wp2_with (first
      | (go_at_call 9; with_reducible refine Calls.mono (awake_any _) ?_; rintro e wc ⟨rfl, hb⟩; replace HX := hid (HX.out.below hb); clear hb; clear b0 b1 b2 b3 b4 bf d0 d1 d2 d3 df t0 t1 t2 t3 tf; obtain ⟨b0, b1, b2, b3, b4, bf⟩ := HX.out.b; obtain ⟨d0, d1, d2, d3, df⟩ := HX.out.d; obtain ⟨t0, t1, t2, t3, tf⟩ := HX.out.t)
      | (go_at_call 10; with_reducible refine Calls.mono (right10_any B ao n m g off _ _ (HV.out.below HX.out.low)) ?_; rintro e wc ⟨rfl, hb⟩; rw [HR.out.1]; replace HX := hid (HX.out.below hb); clear hb; clear b0 b1 b2 b3 b4 bf d0 d1 d2 d3 df t0 t1 t2 t3 tf; obtain ⟨b0, b1, b2, b3, b4, bf⟩ := HX.out.b; obtain ⟨d0, d1, d2, d3, df⟩ := HX.out.d; obtain ⟨t0, t1, t2, t3, tf⟩ := HX.out.t)
      | (go_at_call 11; with_reducible refine Calls.mono (box_law D _) ?_; (fail_if_success have := D1); rintro e wc ⟨rfl, hb⟩; rw [HR.out.2.1]; have D1 := hid trivial; replace HX := hid (HX.out.below hb); clear hb; clear b0 b1 b2 b3 b4 bf d0 d1 d2 d3 df t0 t1 t2 t3 tf; obtain ⟨b0, b1, b2, b3, b4, bf⟩ := HX.out.b; obtain ⟨d0, d1, d2, d3, df⟩ := HX.out.d; obtain ⟨t0, t1, t2, t3, tf⟩ := HX.out.t)
      | (go_at_call 15; with_reducible refine Calls.mono (Rc.refEmpty_any T.x0 T.y0 T.x1 T.y1 _) ?_; rintro e wc ⟨rfl, hb⟩; rw [HR.out.2.2.1]; replace HX := hid (HX.out.below hb); clear hb; clear b0 b1 b2 b3 b4 bf d0 d1 d2 d3 df t0 t1 t2 t3 tf; obtain ⟨b0, b1, b2, b3, b4, bf⟩ := HX.out.b; obtain ⟨d0, d1, d2, d3, df⟩ := HX.out.d; obtain ⟨t0, t1, t2, t3, tf⟩ := HX.out.t)
      | (go_at_call 16; with_reducible refine Calls.mono (halfB_any T.x0 T.y0 T.x1 T.y1 _) ?_; rintro e wc ⟨rfl, hb⟩; rw [HR.out.2.2.2]; replace HX := hid (HX.out.below hb); clear hb; clear b0 b1 b2 b3 b4 bf d0 d1 d2 d3 df t0 t1 t2 t3 tf; obtain ⟨b0, b1, b2, b3, b4, bf⟩ := HX.out.b; obtain ⟨d0, d1, d2, d3, df⟩ := HX.out.d; obtain ⟨t0, t1, t2, t3, tf⟩ := HX.out.t)
      | (go_at_call 11; with_reducible refine Calls.mono (box4 (D.x0 + mw) (D.y0 + nh) (D.x1 + mw) (D.y1 + nh) _) ?_; rintro e we ⟨rfl, hb⟩; rw [HF.out]; have H13 := hid ((Rc.Has4.new (W := wc) (k := wc.heap.size) rfl (.int .i64 (D.x0 + mw)) (.int .i64 (D.y0 + nh)) (.int .i64 (D.x1 + mw)) (.int .i64 (D.y1 + nh)) 23).below hb); replace HX := hid ((HX.out.below ((Below.refl _ _).alloc (Nat.le_refl _) (.cells #[.int .i64 (D.x0 + mw), .int .i64 (D.y0 + nh), .int .i64 (D.x1 + mw), .int .i64 (D.y1 + nh)] 23))).below hb); clear hb; clear b0 b1 b2 b3 b4 bf d0 d1 d2 d3 df t0 t1 t2 t3 tf; obtain ⟨b0, b1, b2, b3, b4, bf⟩ := HX.out.b; obtain ⟨d0, d1, d2, d3, df⟩ := HX.out.d; obtain ⟨t0, t1, t2, t3, tf⟩ := HX.out.t; obtain ⟨y0, y1, y2, y3, yf⟩ := H13.out)
      | (go_at_call 18; with_reducible refine Calls.mono (tile_any B ao n m g off f D T _ HU.out.1 HU.out.2.1 (HV.out.below HX.out.low) HDH.out HU.out.2.2.2.1 HTB.out.1 HTB.out.2) ?_; rintro e w1 ⟨hr, hb⟩; obtain ⟨co, cn, cm, cg, coff, rfl, hO, hg1, hg2, hln⟩ := retG hr; have HLc := hid hln; have HVc := hid (hO.v.below ((Below.refl _ _).alloc (Nat.le_refl _) (.cells #[.int .i64 (orN D).x0, .int .i64 (orN D).y0, .int .i64 (orN D).x1, .int .i64 (orN D).y1, .slice co cn cm] 26))); have HCc := hid (Has5.new (W := w1) (k := w1.heap.size) rfl (orN D).x0 (orN D).y0 (orN D).x1 (orN D).y1 co cn cm 26); replace HX := hid ((HX.out.below hb).below ((Below.refl _ _).alloc (Nat.le_refl _) (.cells #[.int .i64 (orN D).x0, .int .i64 (orN D).y0, .int .i64 (orN D).x1, .int .i64 (orN D).y1, .slice co cn cm] 26))); replace H13 := hid ((H13.out.below hb).alloc (.cells #[.int .i64 (orN D).x0, .int .i64 (orN D).y0, .int .i64 (orN D).x1, .int .i64 (orN D).y1, .slice co cn cm] 26)); clear hr hO hg1 hg2 hln hb y0 y1 y2 y3 yf; clear b0 b1 b2 b3 b4 bf d0 d1 d2 d3 df t0 t1 t2 t3 tf; obtain ⟨b0, b1, b2, b3, b4, bf⟩ := HX.out.b; obtain ⟨d0, d1, d2, d3, df⟩ := HX.out.d; obtain ⟨t0, t1, t2, t3, tf⟩ := HX.out.t; obtain ⟨y0, y1, y2, y3, yf⟩ := H13.out)
      | (go_at_call 18; with_reducible refine Calls.mono (tile_any B ao n m g off f ⟨D.x0 + mw, D.y0 + nh, D.x1 + mw, D.y1 + nh⟩ T _ HU.out.1 HU.out.2.1 (HV.out.below HX.out.low) HEH.out HU.out.2.2.2.2 HTB.out.1 HTB.out.2) ?_; rintro e w2 ⟨hr, hb⟩; rw [HEQ.out] at hr; obtain ⟨eo, en, em, eg, eoff, rfl, hO, hg1, hg2, hln⟩ := retG hr; have hnn := HLc.out.symm.trans hln; subst hnn; have HLT := hid (Lt.mk ((HX.out.below hb).below ((Below.refl _ _).alloc (Nat.le_refl _) (.cells #[.int .i64 (orN ⟨D.x0 + mw, D.y0 + nh, D.x1 + mw, D.y1 + nh⟩).x0, .int .i64 (orN ⟨D.x0 + mw, D.y0 + nh, D.x1 + mw, D.y1 + nh⟩).y0, .int .i64 (orN ⟨D.x0 + mw, D.y0 + nh, D.x1 + mw, D.y1 + nh⟩).x1, .int .i64 (orN ⟨D.x0 + mw, D.y0 + nh, D.x1 + mw, D.y1 + nh⟩).y1, .slice eo cn em] 26))) ((HCc.out.below hb).alloc (.cells #[.int .i64 (orN ⟨D.x0 + mw, D.y0 + nh, D.x1 + mw, D.y1 + nh⟩).x0, .int .i64 (orN ⟨D.x0 + mw, D.y0 + nh, D.x1 + mw, D.y1 + nh⟩).y0, .int .i64 (orN ⟨D.x0 + mw, D.y0 + nh, D.x1 + mw, D.y1 + nh⟩).x1, .int .i64 (orN ⟨D.x0 + mw, D.y0 + nh, D.x1 + mw, D.y1 + nh⟩).y1, .slice eo cn em] 26)) (Has5.new (W := w2) (k := w2.heap.size) rfl (orN ⟨D.x0 + mw, D.y0 + nh, D.x1 + mw, D.y1 + nh⟩).x0 (orN ⟨D.x0 + mw, D.y0 + nh, D.x1 + mw, D.y1 + nh⟩).y0 (orN ⟨D.x0 + mw, D.y0 + nh, D.x1 + mw, D.y1 + nh⟩).x1 (orN ⟨D.x0 + mw, D.y0 + nh, D.x1 + mw, D.y1 + nh⟩).y1 eo cn em 26) ((HVc.out.below hb).below ((Below.refl _ _).alloc (Nat.le_refl _) _)) (hO.v.below ((Below.refl _ _).alloc (Nat.le_refl _) _))); have hcn := vx_small hO.v; clear hr hO hg1 hg2 hln hb y0 y1 y2 y3 yf; clear b0 b1 b2 b3 b4 bf d0 d1 d2 d3 df t0 t1 t2 t3 tf; obtain ⟨c0, c1, c2, c3, c4, cf⟩ := HLT.out.c; obtain ⟨z0, z1, z2, z3, z4, zf⟩ := HLT.out.e))
  clear HX HR H13 HVc HCc HLc
  have hcn5 : cn ≤ 5000 := by
    have h1 := vx_len HLT.out.vc
    rw [img_len] at h1
    have := HQ5.out.2.1
    omega
  generalize w2.alloc (.cells #[.int .i64 (orN ⟨D.x0 + mw, D.y0 + nh, D.x1 + mw, D.y1 + nh⟩).x0, .int .i64 (orN ⟨D.x0 + mw, D.y0 + nh, D.x1 + mw, D.y1 + nh⟩).y0, .int .i64 (orN ⟨D.x0 + mw, D.y0 + nh, D.x1 + mw, D.y1 + nh⟩).x1, .int .i64 (orN ⟨D.x0 + mw, D.y0 + nh, D.x1 + mw, D.y1 + nh⟩).y1, .slice eo cn em] 26) = w3 at HLT c0 c1 c2 c3 c4 cf z0 z1 z2 z3 z4 zf ⊢
  generalize w1.heap.size = k14 at HLT c0 c1 c2 c3 c4 cf z0 z1 z2 z3 z4 zf ⊢
  generalize w2.heap.size = k15 at HLT c0 c1 c2 c3 c4 cf z0 z1 z2 z3 z4 zf ⊢
  obtain ⟨G, hG⟩ : ∃ G, G = tileG T (atX B f) := ⟨_, rfl⟩
  have HG := hid hG
  rw [← hG] at HLT
  clear hG c0 c1 c2 c3 c4 cf z0 z1 z2 z3 z4 zf
  go_loopg [16] cn (fun gh v16 wr => ∃ i : Nat, i ≤ cn ∧ gh = cn - i ∧ v16 = .int .i64 (i : Int) ∧ Lt W B D T ao n m k14 k15 cn (orN D) (orN ⟨D.x0 + mw, D.y0 + nh, D.x1 + mw, D.y1 + nh⟩) co cm cg coff eo em eg eoff (img (orN D) G) wr)
  case atStart => exact ⟨0, Nat.zero_le _, rfl, rfl, HLT.out⟩
  case round =>
    clear HLT
    obtain ⟨i, hi, rfl, rfl, hL⟩ := hrel
    have HL := hid hL
    obtain ⟨c0, c1, c2, c3, c4, cf⟩ := hL.c
    obtain ⟨z0, z1, z2, z3, z4, zf⟩ := hL.e
    by_cases hlt : i < cn
    · have hlz : (i : Int) < (cn : Int) := by omega
      obtain ⟨r, hr⟩ : ∃ s, (img (orN D) G)[i]? = some s := ⟨_, List.getElem?_eq_getElem (by have := vx_len hL.vc; omega)⟩
      obtain ⟨rfl, p0, p1, p2, p3⟩ := vx_at hL.vc hr
      obtain ⟨rfl, q0, q1, q2, q3⟩ := vx_at hL.ve hr
      clear hr hL
      go_wp2
      go_quiet (fail)
      go_wp2
      go_roundg (cn - (i + 1))
      case measure => omega
      case rel => exact ⟨i + 1, hlt, rfl, by simp, HL.out.below (below_drewN (Below.refl _ _) _)⟩
    · obtain rfl : cn = i := by omega
      obtain ⟨b0, b1, b2, b3, b4, bf⟩ := HL.out.x.b; obtain ⟨d0, d1, d2, d3, df⟩ := HL.out.x.d; obtain ⟨t0, t1, t2, t3, tf⟩ := HL.out.x.t
      clear hL
      go_wp2
      go_loopg [17] (D.y1 - D.y0).toNat (fun gh v17 wr => ∃ y : Int, D.y0 ≤ y ∧ gh = (D.y1 - y).toNat ∧ v17 = .int .i64 y ∧ Lt W B D T ao n m k14 k15 cn (orN D) (orN ⟨D.x0 + mw, D.y0 + nh, D.x1 + mw, D.y1 + nh⟩) co cm cg coff eo em eg eoff (img (orN D) G) wr)
      case atStart => exact ⟨D.y0, Int.le_refl _, rfl, rfl, HL.out⟩
      case round =>
        clear HL c0 c1 c2 c3 c4 cf z0 z1 z2 z3 z4 zf
        clear b0 b1 b2 b3 b4 bf d0 d1 d2 d3 df t0 t1 t2 t3 tf
        obtain ⟨y, hy0, rfl, rfl, hL⟩ := hrel
        have HL := hid hL
        obtain ⟨b0, b1, b2, b3, b4, bf⟩ := HL.out.x.b; obtain ⟨d0, d1, d2, d3, df⟩ := HL.out.x.d; obtain ⟨t0, t1, t2, t3, tf⟩ := HL.out.x.t
        clear hL
        by_cases hlty : y < D.y1
        · go_wp2
          go_loopg [18] (D.x1 - D.x0).toNat (fun gh v18 wr => ∃ x : Int, D.x0 ≤ x ∧ gh = (D.x1 - x).toNat ∧ v18 = .int .i64 x ∧ Lt W B D T ao n m k14 k15 cn (orN D) (orN ⟨D.x0 + mw, D.y0 + nh, D.x1 + mw, D.y1 + nh⟩) co cm cg coff eo em eg eoff (img (orN D) G) wr)
          case atStart => exact ⟨D.x0, Int.le_refl _, rfl, rfl, HL.out⟩
          case round =>
            clear HL
            clear b0 b1 b2 b3 b4 bf d0 d1 d2 d3 df t0 t1 t2 t3 tf
            obtain ⟨x, hx0, rfl, rfl, hL⟩ := hrel
            have HL := hid hL
            obtain ⟨b0, b1, b2, b3, b4, bf⟩ := HL.out.x.b; obtain ⟨d0, d1, d2, d3, df⟩ := HL.out.x.d; obtain ⟨t0, t1, t2, t3, tf⟩ := HL.out.x.t
            clear hL
            by_cases hltx : x < D.x1
            · have HB9 : Hid ((-9000000000000 ≤ x ∧ x ≤ 9000000000000) ∧ (-9000000000000 ≤ y ∧ y ≤ 9000000000000)) := by show (_ ∧ _) ∧ (_ ∧ _); omega
              have HXY : Hid (hasB T x y = true → atX (orN D) G x y = atX B f x y) := by
                intro hh
                have h1 := hasB_iff.1 hh
                unfold atX
                rw [if_pos (by rw [has_orN]; exact hasB_iff.2 (by omega)), HG.out]
                unfold tileG
                rw [inT_own h1.1.1 h1.1.2, inT_own h1.2.1 h1.2.2]
                rfl
              go_wp2
              replace HL := hid (HL.out.below (Below.refl _ _).drew)
              clear b0 b1 b2 b3 b4 bf d0 d1 d2 d3 df t0 t1 t2 t3 tf
              rcases hT : hasB ⟨T.x0, T.y0, T.x1, T.y1⟩ x y with _ | _
              · have HT := hid hT
                clear hT
                refine wp_region_held_drew (S := (fun w' => w'.cell? ⟨W.heap.size, 0, none⟩ = some (.int .i64 B.x0) ∧ w'.cell? ⟨W.heap.size, 1, none⟩ = some (.int .i64 B.y0) ∧ w'.cell? ⟨W.heap.size, 2, none⟩ = some (.int .i64 B.x1) ∧ w'.cell? ⟨W.heap.size, 3, none⟩ = some (.int .i64 B.y1) ∧ w'.cell? ⟨W.heap.size, 4, none⟩ = some (.slice ao n m) ∧ w'.cell? ⟨(W.heap.size + 1 + 1), 0, none⟩ = some (.int .i64 T.x0) ∧ w'.cell? ⟨(W.heap.size + 1 + 1), 1, none⟩ = some (.int .i64 T.y0) ∧ w'.cell? ⟨(W.heap.size + 1 + 1), 2, none⟩ = some (.int .i64 T.x1) ∧ w'.cell? ⟨(W.heap.size + 1 + 1), 3, none⟩ = some (.int .i64 T.y1) ∧ w'.cell? ⟨k14, 0, none⟩ = some (.int .i64 (orN D).x0) ∧ w'.cell? ⟨k14, 1, none⟩ = some (.int .i64 (orN D).y0) ∧ w'.cell? ⟨k14, 2, none⟩ = some (.int .i64 (orN D).x1) ∧ w'.cell? ⟨k14, 3, none⟩ = some (.int .i64 (orN D).y1) ∧ w'.cell? ⟨k14, 4, none⟩ = some (.slice co cn cm))) (by kernel_rfl) ?_ (fun hHeld => ?_)
                · exact ⟨HL.out.x.b.c0, HL.out.x.b.c1, HL.out.x.b.c2, HL.out.x.b.c3, HL.out.x.b.c4, HL.out.x.t.c0, HL.out.x.t.c1, HL.out.x.t.c2, HL.out.x.t.c3, HL.out.c.c0, HL.out.c.c1, HL.out.c.c2, HL.out.c.c3, HL.out.c.c4⟩
                generalize wr.drew = wd at HL hHeld ⊢
                refine wpAnyH_take (i := 0) (oi := { dst := some 150, op := Op.load 23 (Operand.tmp 7), type := 23, pos := "law.go:83", after := #[], guard := none }) (v := ?_) rfl (by kernel_rfl) (by kernel_rfl) (by kernel_rfl) (fun _ _ _ h => h) (Or.inl ⟨by rfl, ?hy⟩) (by assumption) ?_
                case hy => (intro w hSw; (try dsimp only at hSw); go_simp; first | done | with_reducible rfl)
                try simp only [Act.put, List.setIfInBounds_toArray, List.set_cons_zero, List.set_cons_succ]
                refine wpAnyH_take (i := 1) (oi := { dst := some 151, op := Op.move (Operand.tmp 18), type := 3, pos := "law.go:83", after := #[], guard := none }) (v := ?_) rfl (by kernel_rfl) (by kernel_rfl) (by kernel_rfl) (fun _ _ _ h => h) (Or.inl ⟨by rfl, ?hy⟩) (by assumption) ?_
                case hy => (intro w hSw; (try dsimp only at hSw); go_simp; first | done | with_reducible rfl)
                try simp only [Act.put, List.setIfInBounds_toArray, List.set_cons_zero, List.set_cons_succ]
                refine wpAnyH_take (i := 2) (oi := { dst := some 152, op := Op.move (Operand.tmp 17), type := 3, pos := "law.go:83", after := #[], guard := none }) (v := ?_) rfl (by kernel_rfl) (by kernel_rfl) (by kernel_rfl) (fun _ _ _ h => h) (Or.inl ⟨by rfl, ?hy⟩) (by assumption) ?_
                case hy => (intro w hSw; (try dsimp only at hSw); go_simp; first | done | with_reducible rfl)
                try simp only [Act.put, List.setIfInBounds_toArray, List.set_cons_zero, List.set_cons_succ]
                refine wpAnyH_ready (rs := [3]) (by kernel_rfl) (by simp) ?_
                refine AllReadyH.cons (o := { dst := some 153, op := Op.call { callee := Callee.value (Operand.func 31), args := #[Operand.tmp 150, Operand.tmp 151, Operand.tmp 152], argTypes := #[23, 3, 3] }, type := 4, pos := "law.go:83", after := #[{ on := 0, ground := Ground.data }, { on := 1, ground := Ground.data }, { on := 2, ground := Ground.data }], guard := none }) rfl (fun K hK => ?_) AllReadyH.nil
                go_simp
                (go_at_call 31; with_reducible refine Calls.mono (refHas_any T.x0 T.y0 T.x1 T.y1 x y _) ?_; rintro e wc ⟨rfl, hb⟩; rw [HT.out]; replace HL := hid (HL.out.below hb); clear hb)
                go_wp2_with fail
                refine hK.out _ _ ?_ (fun hHeld => ?_)
                · exact ⟨HL.out.x.b.c0, HL.out.x.b.c1, HL.out.x.b.c2, HL.out.x.b.c3, HL.out.x.b.c4, HL.out.x.t.c0, HL.out.x.t.c1, HL.out.x.t.c2, HL.out.x.t.c3, HL.out.c.c0, HL.out.c.c1, HL.out.c.c2, HL.out.c.c3, HL.out.c.c4⟩
                clear hK K
                try simp only [Act.put, List.setIfInBounds_toArray, List.set_cons_zero, List.set_cons_succ]
                refine wpAnyH_take (i := 4) (oi := { dst := some 154, op := Op.move (Operand.tmp 153), type := 4, pos := "law.go:83", after := #[{ on := 3, ground := Ground.data }, { on := 3, ground := Ground.chain }], guard := none }) (v := ?_) rfl (by kernel_rfl) (by kernel_rfl) (by kernel_rfl) (fun _ _ _ h => h) (Or.inl ⟨by rfl, ?hy⟩) (by assumption) ?_
                case hy => (intro w hSw; (try dsimp only at hSw); go_simp; first | done | with_reducible rfl)
                try simp only [Act.put, List.setIfInBounds_toArray, List.set_cons_zero, List.set_cons_succ]
                refine wpAnyH_take (i := 5) (oi := { dst := some 155, op := Op.load 26 (Operand.tmp 14), type := 26, pos := "law.go:83", after := #[{ on := 4, ground := Ground.guard }], guard := some (4, true) }) (v := undef) rfl (by kernel_rfl) (by kernel_rfl) (by kernel_rfl) (fun _ _ _ h => h) (Or.inr ⟨by rfl, rfl⟩) (by assumption) ?_
                try simp only [Act.put, List.setIfInBounds_toArray, List.set_cons_zero, List.set_cons_succ]
                refine wpAnyH_take (i := 6) (oi := { dst := some 156, op := Op.move (Operand.tmp 18), type := 3, pos := "law.go:83", after := #[{ on := 4, ground := Ground.guard }], guard := some (4, true) }) (v := undef) rfl (by kernel_rfl) (by kernel_rfl) (by kernel_rfl) (fun _ _ _ h => h) (Or.inr ⟨by rfl, rfl⟩) (by assumption) ?_
                try simp only [Act.put, List.setIfInBounds_toArray, List.set_cons_zero, List.set_cons_succ]
                refine wpAnyH_take (i := 7) (oi := { dst := some 157, op := Op.move (Operand.tmp 17), type := 3, pos := "law.go:83", after := #[{ on := 4, ground := Ground.guard }], guard := some (4, true) }) (v := undef) rfl (by kernel_rfl) (by kernel_rfl) (by kernel_rfl) (fun _ _ _ h => h) (Or.inr ⟨by rfl, rfl⟩) (by assumption) ?_
                try simp only [Act.put, List.setIfInBounds_toArray, List.set_cons_zero, List.set_cons_succ]
                refine wpAnyH_take (i := 8) (oi := { dst := some 158, op := Op.call { callee := Callee.value (Operand.func 32), args := #[Operand.tmp 155, Operand.tmp 156, Operand.tmp 157], argTypes := #[26, 3, 3] }, type := 28, pos := "law.go:83", after := #[{ on := 5, ground := Ground.data }, { on := 6, ground := Ground.data }, { on := 7, ground := Ground.data }, { on := 4, ground := Ground.chain }, { on := 4, ground := Ground.guard }], guard := some (4, true) }) (v := undef) rfl (by kernel_rfl) (by kernel_rfl) (by kernel_rfl) (fun _ _ _ h => h) (Or.inr ⟨by rfl, rfl⟩) (by assumption) ?_
                try simp only [Act.put, List.setIfInBounds_toArray, List.set_cons_zero, List.set_cons_succ]
                refine wpAnyH_take (i := 9) (oi := { dst := some 159, op := Op.load 26 (Operand.tmp 5), type := 26, pos := "law.go:83", after := #[{ on := 4, ground := Ground.guard }], guard := some (4, true) }) (v := undef) rfl (by kernel_rfl) (by kernel_rfl) (by kernel_rfl) (fun _ _ _ h => h) (Or.inr ⟨by rfl, rfl⟩) (by assumption) ?_
                try simp only [Act.put, List.setIfInBounds_toArray, List.set_cons_zero, List.set_cons_succ]
                refine wpAnyH_take (i := 10) (oi := { dst := some 160, op := Op.move (Operand.tmp 18), type := 3, pos := "law.go:83", after := #[{ on := 4, ground := Ground.guard }], guard := some (4, true) }) (v := undef) rfl (by kernel_rfl) (by kernel_rfl) (by kernel_rfl) (fun _ _ _ h => h) (Or.inr ⟨by rfl, rfl⟩) (by assumption) ?_
                try simp only [Act.put, List.setIfInBounds_toArray, List.set_cons_zero, List.set_cons_succ]
                refine wpAnyH_take (i := 11) (oi := { dst := some 161, op := Op.move (Operand.tmp 17), type := 3, pos := "law.go:83", after := #[{ on := 4, ground := Ground.guard }], guard := some (4, true) }) (v := undef) rfl (by kernel_rfl) (by kernel_rfl) (by kernel_rfl) (fun _ _ _ h => h) (Or.inr ⟨by rfl, rfl⟩) (by assumption) ?_
                try simp only [Act.put, List.setIfInBounds_toArray, List.set_cons_zero, List.set_cons_succ]
                refine wpAnyH_take (i := 12) (oi := { dst := some 162, op := Op.call { callee := Callee.value (Operand.func 32), args := #[Operand.tmp 159, Operand.tmp 160, Operand.tmp 161], argTypes := #[26, 3, 3] }, type := 28, pos := "law.go:83", after := #[{ on := 9, ground := Ground.data }, { on := 10, ground := Ground.data }, { on := 11, ground := Ground.data }, { on := 8, ground := Ground.chain }, { on := 4, ground := Ground.guard }], guard := some (4, true) }) (v := undef) rfl (by kernel_rfl) (by kernel_rfl) (by kernel_rfl) (fun _ _ _ h => h) (Or.inr ⟨by rfl, rfl⟩) (by assumption) ?_
                try simp only [Act.put, List.setIfInBounds_toArray, List.set_cons_zero, List.set_cons_succ]
                refine wpAnyH_take (i := 13) (oi := { dst := some 163, op := Op.binOp BinOp.neq 28 (Operand.tmp 158) (Operand.tmp 162) 28, type := 4, pos := "law.go:83", after := #[{ on := 8, ground := Ground.data }, { on := 12, ground := Ground.data }, { on := 4, ground := Ground.guard }], guard := some (4, true) }) (v := undef) rfl (by kernel_rfl) (by kernel_rfl) (by kernel_rfl) (fun _ _ _ h => h) (Or.inr ⟨by rfl, rfl⟩) (by assumption) ?_
                try simp only [Act.put, List.setIfInBounds_toArray, List.set_cons_zero, List.set_cons_succ]
                refine wpAnyH_take (i := 14) (oi := { dst := some 164, op := Op.pick (Operand.tmp 154) (Operand.tmp 163) (Operand.const (Value.bool false)), type := 4, pos := "law.go:83", after := #[{ on := 4, ground := Ground.data }, { on := 13, ground := Ground.data }], guard := none }) (v := ?_) rfl (by kernel_rfl) (by kernel_rfl) (by kernel_rfl) (fun _ _ _ h => h) (Or.inl ⟨by rfl, ?hy⟩) (by assumption) ?_
                case hy => (intro w hSw; (try dsimp only at hSw); go_simp; first | done | with_reducible rfl)
                try simp only [Act.put, List.setIfInBounds_toArray, List.set_cons_zero, List.set_cons_succ]
                refine wpAnyH_done (by kernel_rfl) ?_ _
                go_wp2
                go_roundg (D.x1 - (x + 1)).toNat
                case measure => omega
                case rel => exact ⟨x + 1, by omega, rfl, rfl, HL.out⟩
              · have HT := hid hT
                have HXE := hid (HXY.out hT)
                clear hT
                refine wp_region_held_drew (S := (fun w' => w'.cell? ⟨W.heap.size, 0, none⟩ = some (.int .i64 B.x0) ∧ w'.cell? ⟨W.heap.size, 1, none⟩ = some (.int .i64 B.y0) ∧ w'.cell? ⟨W.heap.size, 2, none⟩ = some (.int .i64 B.x1) ∧ w'.cell? ⟨W.heap.size, 3, none⟩ = some (.int .i64 B.y1) ∧ w'.cell? ⟨W.heap.size, 4, none⟩ = some (.slice ao n m) ∧ w'.cell? ⟨(W.heap.size + 1 + 1), 0, none⟩ = some (.int .i64 T.x0) ∧ w'.cell? ⟨(W.heap.size + 1 + 1), 1, none⟩ = some (.int .i64 T.y0) ∧ w'.cell? ⟨(W.heap.size + 1 + 1), 2, none⟩ = some (.int .i64 T.x1) ∧ w'.cell? ⟨(W.heap.size + 1 + 1), 3, none⟩ = some (.int .i64 T.y1) ∧ w'.cell? ⟨k14, 0, none⟩ = some (.int .i64 (orN D).x0) ∧ w'.cell? ⟨k14, 1, none⟩ = some (.int .i64 (orN D).y0) ∧ w'.cell? ⟨k14, 2, none⟩ = some (.int .i64 (orN D).x1) ∧ w'.cell? ⟨k14, 3, none⟩ = some (.int .i64 (orN D).y1) ∧ w'.cell? ⟨k14, 4, none⟩ = some (.slice co cn cm))) (by kernel_rfl) ?_ (fun hHeld => ?_)
                · exact ⟨HL.out.x.b.c0, HL.out.x.b.c1, HL.out.x.b.c2, HL.out.x.b.c3, HL.out.x.b.c4, HL.out.x.t.c0, HL.out.x.t.c1, HL.out.x.t.c2, HL.out.x.t.c3, HL.out.c.c0, HL.out.c.c1, HL.out.c.c2, HL.out.c.c3, HL.out.c.c4⟩
                generalize wr.drew = wd at HL hHeld ⊢
                refine wpAnyH_take (i := 0) (oi := { dst := some 150, op := Op.load 23 (Operand.tmp 7), type := 23, pos := "law.go:83", after := #[], guard := none }) (v := ?_) rfl (by kernel_rfl) (by kernel_rfl) (by kernel_rfl) (fun _ _ _ h => h) (Or.inl ⟨by rfl, ?hy⟩) (by assumption) ?_
                case hy => (intro w hSw; (try dsimp only at hSw); go_simp; first | done | with_reducible rfl)
                try simp only [Act.put, List.setIfInBounds_toArray, List.set_cons_zero, List.set_cons_succ]
                refine wpAnyH_take (i := 1) (oi := { dst := some 151, op := Op.move (Operand.tmp 18), type := 3, pos := "law.go:83", after := #[], guard := none }) (v := ?_) rfl (by kernel_rfl) (by kernel_rfl) (by kernel_rfl) (fun _ _ _ h => h) (Or.inl ⟨by rfl, ?hy⟩) (by assumption) ?_
                case hy => (intro w hSw; (try dsimp only at hSw); go_simp; first | done | with_reducible rfl)
                try simp only [Act.put, List.setIfInBounds_toArray, List.set_cons_zero, List.set_cons_succ]
                refine wpAnyH_take (i := 2) (oi := { dst := some 152, op := Op.move (Operand.tmp 17), type := 3, pos := "law.go:83", after := #[], guard := none }) (v := ?_) rfl (by kernel_rfl) (by kernel_rfl) (by kernel_rfl) (fun _ _ _ h => h) (Or.inl ⟨by rfl, ?hy⟩) (by assumption) ?_
                case hy => (intro w hSw; (try dsimp only at hSw); go_simp; first | done | with_reducible rfl)
                try simp only [Act.put, List.setIfInBounds_toArray, List.set_cons_zero, List.set_cons_succ]
                refine wpAnyH_ready (rs := [3]) (by kernel_rfl) (by simp) ?_
                refine AllReadyH.cons (o := { dst := some 153, op := Op.call { callee := Callee.value (Operand.func 31), args := #[Operand.tmp 150, Operand.tmp 151, Operand.tmp 152], argTypes := #[23, 3, 3] }, type := 4, pos := "law.go:83", after := #[{ on := 0, ground := Ground.data }, { on := 1, ground := Ground.data }, { on := 2, ground := Ground.data }], guard := none }) rfl (fun K hK => ?_) AllReadyH.nil
                go_simp
                (go_at_call 31; with_reducible refine Calls.mono (refHas_any T.x0 T.y0 T.x1 T.y1 x y _) ?_; rintro e wc ⟨rfl, hb⟩; rw [HT.out]; replace HL := hid (HL.out.below hb); clear hb)
                go_wp2_with fail
                refine hK.out _ _ ?_ (fun hHeld => ?_)
                · exact ⟨HL.out.x.b.c0, HL.out.x.b.c1, HL.out.x.b.c2, HL.out.x.b.c3, HL.out.x.b.c4, HL.out.x.t.c0, HL.out.x.t.c1, HL.out.x.t.c2, HL.out.x.t.c3, HL.out.c.c0, HL.out.c.c1, HL.out.c.c2, HL.out.c.c3, HL.out.c.c4⟩
                clear hK K
                try simp only [Act.put, List.setIfInBounds_toArray, List.set_cons_zero, List.set_cons_succ]
                refine wpAnyH_take (i := 4) (oi := { dst := some 154, op := Op.move (Operand.tmp 153), type := 4, pos := "law.go:83", after := #[{ on := 3, ground := Ground.data }, { on := 3, ground := Ground.chain }], guard := none }) (v := ?_) rfl (by kernel_rfl) (by kernel_rfl) (by kernel_rfl) (fun _ _ _ h => h) (Or.inl ⟨by rfl, ?hy⟩) (by assumption) ?_
                case hy => (intro w hSw; (try dsimp only at hSw); go_simp; first | done | with_reducible rfl)
                try simp only [Act.put, List.setIfInBounds_toArray, List.set_cons_zero, List.set_cons_succ]
                refine wpAnyH_take (i := 5) (oi := { dst := some 155, op := Op.load 26 (Operand.tmp 14), type := 26, pos := "law.go:83", after := #[{ on := 4, ground := Ground.guard }], guard := some (4, true) }) (v := ?_) rfl (by kernel_rfl) (by kernel_rfl) (by kernel_rfl) (fun _ _ _ h => h) (Or.inl ⟨by rfl, ?hy⟩) (by assumption) ?_
                case hy => (intro w hSw; (try dsimp only at hSw); go_simp; first | done | with_reducible rfl)
                try simp only [Act.put, List.setIfInBounds_toArray, List.set_cons_zero, List.set_cons_succ]
                refine wpAnyH_take (i := 6) (oi := { dst := some 156, op := Op.move (Operand.tmp 18), type := 3, pos := "law.go:83", after := #[{ on := 4, ground := Ground.guard }], guard := some (4, true) }) (v := ?_) rfl (by kernel_rfl) (by kernel_rfl) (by kernel_rfl) (fun _ _ _ h => h) (Or.inl ⟨by rfl, ?hy⟩) (by assumption) ?_
                case hy => (intro w hSw; (try dsimp only at hSw); go_simp; first | done | with_reducible rfl)
                try simp only [Act.put, List.setIfInBounds_toArray, List.set_cons_zero, List.set_cons_succ]
                refine wpAnyH_take (i := 7) (oi := { dst := some 157, op := Op.move (Operand.tmp 17), type := 3, pos := "law.go:83", after := #[{ on := 4, ground := Ground.guard }], guard := some (4, true) }) (v := ?_) rfl (by kernel_rfl) (by kernel_rfl) (by kernel_rfl) (fun _ _ _ h => h) (Or.inl ⟨by rfl, ?hy⟩) (by assumption) ?_
                case hy => (intro w hSw; (try dsimp only at hSw); go_simp; first | done | with_reducible rfl)
                try simp only [Act.put, List.setIfInBounds_toArray, List.set_cons_zero, List.set_cons_succ]
                refine wpAnyH_take (i := 9) (oi := { dst := some 159, op := Op.load 26 (Operand.tmp 5), type := 26, pos := "law.go:83", after := #[{ on := 4, ground := Ground.guard }], guard := some (4, true) }) (v := ?_) rfl (by kernel_rfl) (by kernel_rfl) (by kernel_rfl) (fun _ _ _ h => h) (Or.inl ⟨by rfl, ?hy⟩) (by assumption) ?_
                case hy => (intro w hSw; (try dsimp only at hSw); go_simp; first | done | with_reducible rfl)
                try simp only [Act.put, List.setIfInBounds_toArray, List.set_cons_zero, List.set_cons_succ]
                refine wpAnyH_take (i := 10) (oi := { dst := some 160, op := Op.move (Operand.tmp 18), type := 3, pos := "law.go:83", after := #[{ on := 4, ground := Ground.guard }], guard := some (4, true) }) (v := ?_) rfl (by kernel_rfl) (by kernel_rfl) (by kernel_rfl) (fun _ _ _ h => h) (Or.inl ⟨by rfl, ?hy⟩) (by assumption) ?_
                case hy => (intro w hSw; (try dsimp only at hSw); go_simp; first | done | with_reducible rfl)
                try simp only [Act.put, List.setIfInBounds_toArray, List.set_cons_zero, List.set_cons_succ]
                refine wpAnyH_take (i := 11) (oi := { dst := some 161, op := Op.move (Operand.tmp 17), type := 3, pos := "law.go:83", after := #[{ on := 4, ground := Ground.guard }], guard := some (4, true) }) (v := ?_) rfl (by kernel_rfl) (by kernel_rfl) (by kernel_rfl) (fun _ _ _ h => h) (Or.inl ⟨by rfl, ?hy⟩) (by assumption) ?_
                case hy => (intro w hSw; (try dsimp only at hSw); go_simp; first | done | with_reducible rfl)
                try simp only [Act.put, List.setIfInBounds_toArray, List.set_cons_zero, List.set_cons_succ]
                refine wpAnyH_ready (rs := [8]) (by kernel_rfl) (by simp) ?_
                refine AllReadyH.cons (o := { dst := some 158, op := Op.call { callee := Callee.value (Operand.func 32), args := #[Operand.tmp 155, Operand.tmp 156, Operand.tmp 157], argTypes := #[26, 3, 3] }, type := 28, pos := "law.go:83", after := #[{ on := 5, ground := Ground.data }, { on := 6, ground := Ground.data }, { on := 7, ground := Ground.data }, { on := 4, ground := Ground.chain }, { on := 4, ground := Ground.guard }], guard := some (4, true) }) rfl (fun K hK => ?_) AllReadyH.nil
                go_simp
                (go_at_call 32; with_reducible refine Calls.mono (refAt_any (orN D) co cn cm cg coff G x y _ HQO.out (Nat.le_trans hcn5 (by omega)) HB9.out.1 HB9.out.2 HL.out.vc) ?_; rintro e wc ⟨rfl, hb⟩; rw [HXE.out]; replace HL := hid (HL.out.below hb); clear hb)
                go_wp2_with fail
                refine hK.out _ _ ?_ (fun hHeld => ?_)
                · exact ⟨HL.out.x.b.c0, HL.out.x.b.c1, HL.out.x.b.c2, HL.out.x.b.c3, HL.out.x.b.c4, HL.out.x.t.c0, HL.out.x.t.c1, HL.out.x.t.c2, HL.out.x.t.c3, HL.out.c.c0, HL.out.c.c1, HL.out.c.c2, HL.out.c.c3, HL.out.c.c4⟩
                clear hK K
                try simp only [Act.put, List.setIfInBounds_toArray, List.set_cons_zero, List.set_cons_succ]
                refine wpAnyH_ready (rs := [12]) (by kernel_rfl) (by simp) ?_
                refine AllReadyH.cons (o := { dst := some 162, op := Op.call { callee := Callee.value (Operand.func 32), args := #[Operand.tmp 159, Operand.tmp 160, Operand.tmp 161], argTypes := #[26, 3, 3] }, type := 28, pos := "law.go:83", after := #[{ on := 9, ground := Ground.data }, { on := 10, ground := Ground.data }, { on := 11, ground := Ground.data }, { on := 8, ground := Ground.chain }, { on := 4, ground := Ground.guard }], guard := some (4, true) }) rfl (fun K hK => ?_) AllReadyH.nil
                go_simp
                (go_at_call 32; with_reducible refine Calls.mono (refAt_any B ao n m g off f x y _ HU.out.2.2.1 (Nat.le_trans HU.out.1 (by omega)) HB9.out.1 HB9.out.2 (HV.out.below HL.out.x.low)) ?_; rintro e wc ⟨rfl, hb⟩; replace HL := hid (HL.out.below hb); clear hb)
                go_wp2_with fail
                refine hK.out _ _ ?_ (fun hHeld => ?_)
                · exact ⟨HL.out.x.b.c0, HL.out.x.b.c1, HL.out.x.b.c2, HL.out.x.b.c3, HL.out.x.b.c4, HL.out.x.t.c0, HL.out.x.t.c1, HL.out.x.t.c2, HL.out.x.t.c3, HL.out.c.c0, HL.out.c.c1, HL.out.c.c2, HL.out.c.c3, HL.out.c.c4⟩
                clear hK K
                try simp only [Act.put, List.setIfInBounds_toArray, List.set_cons_zero, List.set_cons_succ]
                refine wpAnyH_take (i := 13) (oi := { dst := some 163, op := Op.binOp BinOp.neq 28 (Operand.tmp 158) (Operand.tmp 162) 28, type := 4, pos := "law.go:83", after := #[{ on := 8, ground := Ground.data }, { on := 12, ground := Ground.data }, { on := 4, ground := Ground.guard }], guard := some (4, true) }) (v := ?_) rfl (by kernel_rfl) (by kernel_rfl) (by kernel_rfl) (fun _ _ _ h => h) (Or.inl ⟨by rfl, ?hy⟩) (by assumption) ?_
                case hy => (intro w hSw; (try dsimp only at hSw); go_simp; first | done | with_reducible rfl)
                try simp only [Act.put, List.setIfInBounds_toArray, List.set_cons_zero, List.set_cons_succ]
                refine wpAnyH_take (i := 14) (oi := { dst := some 164, op := Op.pick (Operand.tmp 154) (Operand.tmp 163) (Operand.const (Value.bool false)), type := 4, pos := "law.go:83", after := #[{ on := 4, ground := Ground.data }, { on := 13, ground := Ground.data }], guard := none }) (v := ?_) rfl (by kernel_rfl) (by kernel_rfl) (by kernel_rfl) (fun _ _ _ h => h) (Or.inl ⟨by rfl, ?hy⟩) (by assumption) ?_
                case hy => (intro w hSw; (try dsimp only at hSw); go_simp; first | done | with_reducible rfl)
                try simp only [Act.put, List.setIfInBounds_toArray, List.set_cons_zero, List.set_cons_succ]
                refine wpAnyH_done (by kernel_rfl) ?_ _
                go_wp2
                go_roundg (D.x1 - (x + 1)).toNat
                case measure => omega
                case rel => exact ⟨x + 1, by omega, rfl, rfl, HL.out⟩
            · go_wp2
              go_roundg (D.y1 - (y + 1)).toNat
              case measure => omega
              case rel => exact ⟨y + 1, by omega, rfl, rfl, HL.out⟩
        · go_wp2
          go_ret
          exact ⟨rfl, HL.out.x.low⟩

theorem own : ownKnob Try.prog.godebug = none := by kernel_rfl

set_option maxRecDepth 100000 in
theorem lifted (os : Os) (started : os.Started) (H : Type) (enc : TypeId × Value → H) :
    ReturnsInHanded {} Try.checked os 6 .any (Rows.moveTilesSpec.pre6 enc Try.prog Try.f6 Rows.moveTilesRow.domain false) (Rows.moveTilesSpec.post enc Try.prog Try.f6 false true false false) := by
  refine returnsInHanded_of_change (C := Try.checked) own started (by kernel_rfl) Try.func6
    (ChangeSpec.witness6 (enc := enc) (C := Try.checked) false ⟨#[], #[.agg #[.int .i64 0, .int .i64 0, .int .i64 0, .int .i64 0, .slice none 0 0], .agg #[.int .i64 0, .int .i64 0, .int .i64 0, .int .i64 0], .agg #[.int .i64 0, .int .i64 0, .int .i64 0, .int .i64 0], .int .i64 0, .int .i64 0], []⟩ 8 (by kernel_rfl) (by kernel_rfl) (by kernel_rfl) (by kernel_rfl)) ?_
  intro W base args ds gs before hval0 hW hcnd _
  have hval : ∀ (j : Nat) t v, Try.f6.params[j]? = some t → args[j]? = some v → Value.okWide Try.prog W .any base t v := hval0
  have hW' := hW
  obtain ⟨p, q, hA0, hV, rfl, hfz, hnd⟩ := hW
  have hA : DataW.TrodAll enc Try.prog W 0 (fun _ => true) true Try.f6.params.toList args.toList ds p := hA0
  rw [Try.params6] at hA hval
  obtain ⟨v0, vs0, d0, ds0, p0, q0, hargs, rfl, rfl, h0, r0⟩ := trodAll_cons hA
  obtain ⟨v1, vs1, d1, ds1, p1, q1, rfl, rfl, rfl, h1, r1⟩ := trodAll_cons r0
  obtain ⟨v2, vs2, d2, ds2, p2, q2, rfl, rfl, rfl, h2, r2⟩ := trodAll_cons r1
  obtain ⟨v3, vs3, d3, ds3, p3, q3, rfl, rfl, rfl, h3, r3⟩ := trodAll_cons r2
  obtain ⟨v4, vs4, d4, ds4, p4, q4, rfl, rfl, rfl, h4, r4⟩ := trodAll_cons r3
  obtain ⟨rfl, rfl, rfl⟩ := trodAll_nil r4
  obtain rfl : args = #[v0, v1, v2, v3, v4] := by cases args; simp_all
  obtain ⟨rfl, rfl⟩ := trodVars_none hV
  obtain ⟨B, ao, n, c, g, off, l, rfl, hv0, hp0⟩ := open_buf (hval 0 26 v0 rfl rfl) h0
  obtain ⟨D, rfl⟩ := open_rect (hval 1 23 v1 rfl rfl) h1
  obtain ⟨T, rfl⟩ := open_rect (hval 2 23 v2 rfl rfl) h2
  obtain ⟨j, rfl, -, -, -⟩ := open_int Try.underlying3 (hval 3 3 v3 rfl rfl) h3
  obtain ⟨k, rfl, -, -, -⟩ := open_int Try.underlying3 (hval 4 3 v4 rfl rfl) h4
  clear hA0 hval0
  simp only [List.append_nil] at hW'
  have hlt : ∀ x ∈ p0 ++ (p1 ++ (p2 ++ (p3 ++ (p4)))), x.block < W.heap.size := fun x hx => by simpa using hW'.lt x (by simpa using hx)
  refine (walk B ao n c g off l D T j k W hv0 hp0).mono fun e W' ⟨he, hg⟩ => ?_
  subst he
  have t0 := Below.trod laidOut (by kernel_rfl) (of_decide_eq_true (by kernel_rfl)) h0 hg (fun x hx => hlt x (List.mem_append_left _ hx))
  have t1 := Below.trod laidOut (by kernel_rfl) (of_decide_eq_true (by kernel_rfl)) h1 hg (fun x hx => hlt x (List.mem_append_right _ (List.mem_append_left _ hx)))
  have t2 := Below.trod laidOut (by kernel_rfl) (of_decide_eq_true (by kernel_rfl)) h2 hg (fun x hx => hlt x (List.mem_append_right _ (List.mem_append_right _ (List.mem_append_left _ hx))))
  have t3 := Below.trod laidOut (by kernel_rfl) (of_decide_eq_true (by kernel_rfl)) h3 hg (fun x hx => hlt x (List.mem_append_right _ (List.mem_append_right _ (List.mem_append_right _ (List.mem_append_left _ hx)))))
  have t4 := Below.trod laidOut (by kernel_rfl) (of_decide_eq_true (by kernel_rfl)) h4 hg (fun x hx => hlt x (List.mem_append_right _ (List.mem_append_right _ (List.mem_append_right _ (List.mem_append_right _ (hx))))))
  exact ⟨_, rfl, ⟨_, _, _, _, _, _, hW', (trodAll_cons_mk (shut_bool Try.underlying4 _) trodAll_mk0), (trodAll_cons_mk t0 (trodAll_cons_mk t1 (trodAll_cons_mk t2 (trodAll_cons_mk t3 (trodAll_cons_mk t4 trodAll_mk0))))), rfl, hg.frame _, fun h => by cases h⟩⟩

theorem over : Rows.moveTilesRow.holds Try.pinned (OpenSpec.ofChange Rows.moveTilesSpec) :=
  OpenClaim.holds_of_wide 6 Try.f6 rfl rfl rfl rfl rfl rfl rfl ⟨rfl, rfl, rfl, rfl, rfl⟩ rfl rfl rfl rfl rfl (by kernel_rfl) Try.func6 (by kernel_rfl)
    (of_decide_eq_true (by kernel_rfl)) (by unfold Func.isWrapper; first | (rw [if_pos (by decide +kernel)]; kernel_rfl) | (rw [if_neg (by decide +kernel)]; exact ⟨rfl, rfl⟩))
    (fun os started H enc _ => lifted os started H enc)

theorem proved : Rows.MoveTilesSaid := over
#print axioms proved
end Go.Proofs.Ytfgfgfmimejpdaa.moveTiles
