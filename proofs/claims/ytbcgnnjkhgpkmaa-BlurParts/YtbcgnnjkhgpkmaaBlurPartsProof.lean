/- A part of a box shows what the box shows there; no condition. -/
import Derived.Test.YtbcgnnjkhgpkmaaRows
import Derived.WalkKit
import Derived.ProofKit
import Derived.OpenShut
import Derived.Test.YtbcgnnjkhgpkmaaOpen
import Derived.Test.YtbcgnnjkhgpkmaaKit
import Derived.Deep.LoopGhost
import Derived.Deep.Light
import Derived.Deep.RegionHeld3
import Derived.BigQuiet
import Derived.Deep.QuietTactic
namespace Go.Proofs.Ytbcgnnjkhgpkmaa.blurParts
open Go.ChangeShapes Go.WideShapes Go.ChangeAt Go.RowKit Num
set_option linter.unusedVariables false
set_option linter.unusedSimpArgs false
attribute [local go_sem ↓] eqX
structure Ky (W : World) (B D E : R) (ao : Option Addr) (n m : Nat) (w : World) : Prop where
  b : Has5 w W.heap.size B ao n m
  d : Rc.Has4 w (W.heap.size + 1) (.int .i64 D.x0) (.int .i64 D.y0) (.int .i64 D.x1) (.int .i64 D.y1)
  e : Rc.Has4 w (W.heap.size + 1 + 1) (.int .i64 E.x0) (.int .i64 E.y0) (.int .i64 E.x1) (.int .i64 E.y1)
  low : Below W.heap.size W w
theorem Ky.below {W : World} {B D E : R} {ao : Option Addr} {n m : Nat} {w w' : World} (x : Ky W B D E ao n m w) (hb : Below w.heap.size w w') : Ky W B D E ao n m w' :=
  ⟨x.b.below hb, x.d.below hb, x.e.below hb, x.low.trans (hb.mono x.low.size)⟩
theorem ky_new (W : World) (B D E : R) (ao : Option Addr) (n m : Nat) : Ky W B D E ao n m (((W.alloc (.cells #[.int .i64 B.x0, .int .i64 B.y0, .int .i64 B.x1, .int .i64 B.y1, .slice ao n m] 26)).alloc (.cells #[.int .i64 D.x0, .int .i64 D.y0, .int .i64 D.x1, .int .i64 D.y1] 23)).alloc (.cells #[.int .i64 E.x0, .int .i64 E.y0, .int .i64 E.x1, .int .i64 E.y1] 23)) :=
  ⟨((Has5.new rfl _ _ _ _ _ _ _ _).alloc _).alloc _, (Rc.Has4.new (by simp) _ _ _ _ _).alloc _, Rc.Has4.new (by simp) _ _ _ _ _, (((Below.refl _ _).alloc (Nat.le_refl _) _).alloc (by simp) _).alloc (by simp; omega) _⟩
abbrev S55 (k7 k8 : Nat) (Z Y : R) (v u : Value) (w' : World) : Prop := S5c k7 Z v w' ∧ S5c k8 Y u w'
theorem s55_below {k7 k8 : Nat} {Z Y : R} {v u : Value} {w1 w2 : World} (h : S55 k7 k8 Z Y v u w1) (hb : Below w1.heap.size w1 w2) : S55 k7 k8 Z Y v u w2 := ⟨s5c_below h.1 hb, s5c_below h.2 hb⟩
theorem s55_drew {k7 k8 : Nat} {Z Y : R} {v u : Value} {w1 : World} (h : S55 k7 k8 Z Y v u w1) : S55 k7 k8 Z Y v u w1.drew := s55_below h (Below.refl _ _).drew
/-- the blurred pixel at a point of a box -/
theorem at_box {D : R} {u : Int → Int → X} {x y : Int} (h : hasB D x y = true) : atX (orN D) u x y = u x y := by
  unfold atX
  rw [has_orN, if_pos h]

set_option maxRecDepth 100000 in
set_option maxHeartbeats 4000000 in
theorem walk (B : R) (ao : Option Addr) (n m g off : Nat) (l : List X) (D E : R) (rx ry : Int) (W : World) (h : Vx W ao n m g off l) (hp : ∀ p, p ∈ l → byteX p) :
    Calls Try.prog 6 #[.agg #[.int .i64 B.x0, .int .i64 B.y0, .int .i64 B.x1, .int .i64 B.y1, .slice ao n m], .agg #[.int .i64 D.x0, .int .i64 D.y0, .int .i64 D.x1, .int .i64 D.y1], .agg #[.int .i64 E.x0, .int .i64 E.y0, .int .i64 E.x1, .int .i64 E.y1], .int .i64 rx, .int .i64 ry] W fun e w' => e = .returned (.bool true) ∧ Below W.heap.size W w' := by
  have hn := vx_small h
  have HX : Hid (Ky W B D E ao n m (((W.alloc (.cells #[.int .i64 B.x0, .int .i64 B.y0, .int .i64 B.x1, .int .i64 B.y1, .slice ao n m] 26)).alloc (.cells #[.int .i64 D.x0, .int .i64 D.y0, .int .i64 D.x1, .int .i64 D.y1] 23)).alloc (.cells #[.int .i64 E.x0, .int .i64 E.y0, .int .i64 E.x1, .int .i64 E.y1] 23))) := ky_new W B D E ao n m
  obtain ⟨b0, b1, b2, b3, b4, bf⟩ := HX.out.b
  obtain ⟨r0, r1, r2, r3, rf⟩ := HX.out.d
  obtain ⟨e0, e1, e2, e3, ef⟩ := HX.out.e
  rcases hF : fineQ B n D rx ry with _ | _
  · have HR := hid hF
    clear hF h hp
    go_enter Try.func6, Try.ntmps6
    go_wp2_with (first | (go_at_call 9; with_reducible refine Calls.mono (awake_any _) ?_; rintro e wc ⟨rfl, hb⟩; replace HX := hid (HX.out.below hb); clear hb; clear b0 b1 b2 b3 b4 bf r0 r1 r2 r3 rf e0 e1 e2 e3 ef; obtain ⟨b0, b1, b2, b3, b4, bf⟩ := HX.out.b; obtain ⟨r0, r1, r2, r3, rf⟩ := HX.out.d; obtain ⟨e0, e1, e2, e3, ef⟩ := HX.out.e) | (go_at_call 10; with_reducible refine Calls.mono (fine_any B ao n m D rx ry _ hn) ?_; rintro e wc ⟨rfl, hb⟩; rw [HR.out]; replace HX := hid (HX.out.below hb); clear hb; clear b0 b1 b2 b3 b4 bf r0 r1 r2 r3 rf e0 e1 e2 e3 ef; obtain ⟨b0, b1, b2, b3, b4, bf⟩ := HX.out.b; obtain ⟨r0, r1, r2, r3, rf⟩ := HX.out.d; obtain ⟨e0, e1, e2, e3, ef⟩ := HX.out.e))
    go_ret
    exact ⟨rfl, HX.out.low⟩
  rcases hFE : fineQ B n E rx ry with _ | _
  · have HR := hid hF
    have HRE := hid hFE
    clear hF h hp hFE
    go_enter Try.func6, Try.ntmps6
    go_wp2_with (first | (go_at_call 9; with_reducible refine Calls.mono (awake_any _) ?_; rintro e wc ⟨rfl, hb⟩; replace HX := hid (HX.out.below hb); clear hb; clear b0 b1 b2 b3 b4 bf r0 r1 r2 r3 rf e0 e1 e2 e3 ef; obtain ⟨b0, b1, b2, b3, b4, bf⟩ := HX.out.b; obtain ⟨r0, r1, r2, r3, rf⟩ := HX.out.d; obtain ⟨e0, e1, e2, e3, ef⟩ := HX.out.e) | (go_at_call 10; with_reducible refine Calls.mono (fine_any B ao n m D rx ry _ hn) ?_; rintro e wc ⟨rfl, hb⟩; rw [HR.out]; replace HX := hid (HX.out.below hb); clear hb; clear b0 b1 b2 b3 b4 bf r0 r1 r2 r3 rf e0 e1 e2 e3 ef; obtain ⟨b0, b1, b2, b3, b4, bf⟩ := HX.out.b; obtain ⟨r0, r1, r2, r3, rf⟩ := HX.out.d; obtain ⟨e0, e1, e2, e3, ef⟩ := HX.out.e) | (go_at_call 10; with_reducible refine Calls.mono (fine_any B ao n m E rx ry _ hn) ?_; rintro e wc ⟨rfl, hb⟩; rw [HRE.out]; replace HX := hid (HX.out.below hb); clear hb; clear b0 b1 b2 b3 b4 bf r0 r1 r2 r3 rf e0 e1 e2 e3 ef; obtain ⟨b0, b1, b2, b3, b4, bf⟩ := HX.out.b; obtain ⟨r0, r1, r2, r3, rf⟩ := HX.out.d; obtain ⟨e0, e1, e2, e3, ef⟩ := HX.out.e))
    go_ret
    exact ⟨rfl, HX.out.low⟩
  obtain ⟨a, b, hG⟩ := good8 hF
  have hGE : Good8 B n E rx ry a b := by
    obtain ⟨a', b', hG'⟩ := good8 hFE
    obtain rfl : a' = a := by have h1 := hG.hrx; have h2 := hG'.hrx; omega
    obtain rfl : b' = b := by have h1 := hG.hry; have h2 := hG'.hry; omega
    exact hG'
  have hU := bu_of h hp hG
  have hUE := bu_of h hp hGE
  have hrx := hG.hrx
  have hry := hG.hry
  have HR := hid hF
  have HRE := hid hFE
  clear hF hp hFE
  subst hrx
  subst hry
  obtain ⟨f, hf⟩ : ∃ f, f = unimg B l := ⟨_, rfl⟩
  have e1' := hU.im
  rw [← hf] at e1'
  have HU : Hid (n ≤ 5000 ∧ bufB B n = true ∧ (∀ x y, byteX (f x y)) ∧ Half D ∧ area (grow D (a : Int) (b : Int) (a : Int) (b : Int)) ≤ 5000 ∧ Half E ∧ area (grow E (a : Int) (b : Int) (a : Int) (b : Int)) ≤ 5000 ∧ a ≤ 255 ∧ b ≤ 255) := ⟨hU.n5, hU.buf, by rw [hf]; exact hU.byt, hU.half, hU.few, hUE.half, hUE.few, hU.a, hU.b⟩
  obtain ⟨⟨hd0, hd1⟩, ⟨hd2, hd3⟩, ⟨hd4, hd5⟩, hd6, hd7⟩ := hUE.half
  have HZS : Hid (Ok (orN D) ∧ wid (orN D) * hei (orN D) ≤ 5000 ∧ Ok (orN E) ∧ wid (orN E) * hei (orN E) ≤ 5000) := by
    have h1 := buf_new hU.half.ok (Int.le_trans (grow_area hU.half hU.a hU.b) hU.few)
    have h2 := buf_new hUE.half.ok (Int.le_trans (grow_area hUE.half hU.a hU.b) hUE.few)
    exact ⟨ok_orN hU.half.ok, h1.2.1, ok_orN hUE.half.ok, h2.2.1⟩
  subst e1'
  have HV := hid h
  obtain ⟨Z, hZ⟩ : ∃ Z, Z = orN D := ⟨_, rfl⟩
  obtain ⟨Y, hY⟩ : ∃ Y, Y = orN E := ⟨_, rfl⟩
  rw [← hZ, ← hY] at HZS
  have HZ := hid hZ.symm
  have HY := hid hY.symm
  clear hU hUE hG hGE h hf hZ hY
  go_enter Try.func6, Try.ntmps6
  go_wp2_with (first
    | (go_at_call 9; with_reducible refine Calls.mono (awake_any _) ?_; rintro e wc ⟨rfl, hb⟩; replace HX := hid (HX.out.below hb); clear hb; clear b0 b1 b2 b3 b4 bf r0 r1 r2 r3 rf e0 e1 e2 e3 ef; obtain ⟨b0, b1, b2, b3, b4, bf⟩ := HX.out.b; obtain ⟨r0, r1, r2, r3, rf⟩ := HX.out.d; obtain ⟨e0, e1, e2, e3, ef⟩ := HX.out.e)
    | (go_at_call 10; with_reducible refine Calls.mono (fine_any B ao n m D (a : Int) (b : Int) _ hn) ?_; rintro e wc ⟨rfl, hb⟩; rw [HR.out]; replace HX := hid (HX.out.below hb); clear hb; clear b0 b1 b2 b3 b4 bf r0 r1 r2 r3 rf e0 e1 e2 e3 ef; obtain ⟨b0, b1, b2, b3, b4, bf⟩ := HX.out.b; obtain ⟨r0, r1, r2, r3, rf⟩ := HX.out.d; obtain ⟨e0, e1, e2, e3, ef⟩ := HX.out.e)
    | (go_at_call 10; with_reducible refine Calls.mono (fine_any B ao n m E (a : Int) (b : Int) _ hn) ?_; rintro e wc ⟨rfl, hb⟩; rw [HRE.out]; replace HX := hid (HX.out.below hb); clear hb; clear b0 b1 b2 b3 b4 bf r0 r1 r2 r3 rf e0 e1 e2 e3 ef; obtain ⟨b0, b1, b2, b3, b4, bf⟩ := HX.out.b; obtain ⟨r0, r1, r2, r3, rf⟩ := HX.out.d; obtain ⟨e0, e1, e2, e3, ef⟩ := HX.out.e)
    | (go_at_call 12; with_reducible refine Calls.mono (box_any B ao n m g off f D a b _ HU.out.2.1 HU.out.1 (HV.out.below HX.out.low) HU.out.2.2.1 HU.out.2.2.2.1 HU.out.2.2.2.2.1 HU.out.2.2.2.2.2.2.2.1 HU.out.2.2.2.2.2.2.2.2) ?_; (fail_if_success have := HO2); rintro e w2 ⟨hr, hb2⟩; rw [HZ.out] at hr; obtain ⟨co, cn, cm, cg, coff, rfl, hO, hg1, hg2, hln⟩ := retG hr; have HLC := hid hln; have HO2 := hid (hO.v.below ((Below.refl _ _).alloc (Nat.le_refl _) (.cells #[.int .i64 Z.x0, .int .i64 Z.y0, .int .i64 Z.x1, .int .i64 Z.y1, .slice co cn cm] 26))); have H52 := hid (Has5.new (W := w2) (k := w2.heap.size) rfl Z.x0 Z.y0 Z.x1 Z.y1 co cn cm 26); replace HX := hid ((HX.out.below hb2).below ((Below.refl _ _).alloc (Nat.le_refl _) (.cells #[.int .i64 Z.x0, .int .i64 Z.y0, .int .i64 Z.x1, .int .i64 Z.y1, .slice co cn cm] 26))); clear hr hO hg1 hg2 hln hb2; clear b0 b1 b2 b3 b4 bf r0 r1 r2 r3 rf e0 e1 e2 e3 ef; obtain ⟨b0, b1, b2, b3, b4, bf⟩ := HX.out.b; obtain ⟨r0, r1, r2, r3, rf⟩ := HX.out.d; obtain ⟨e0, e1, e2, e3, ef⟩ := HX.out.e)
    | (go_at_call 12; with_reducible refine Calls.mono (box_any B ao n m g off f E a b _ HU.out.2.1 HU.out.1 (HV.out.below HX.out.low) HU.out.2.2.1 HU.out.2.2.2.2.2.1 HU.out.2.2.2.2.2.2.1 HU.out.2.2.2.2.2.2.2.1 HU.out.2.2.2.2.2.2.2.2) ?_; rintro e w3 ⟨hr, hb3⟩; rw [HY.out] at hr; obtain ⟨po, pn, pm, pg, poff, rfl, hO, hg1, hg2, hln⟩ := retG hr; have HLP := hid hln; have HO3 := hid (hO.v.below ((Below.refl _ _).alloc (Nat.le_refl _) (.cells #[.int .i64 Y.x0, .int .i64 Y.y0, .int .i64 Y.x1, .int .i64 Y.y1, .slice po pn pm] 26))); have H53 := hid (Has5.new (W := w3) (k := w3.heap.size) rfl Y.x0 Y.y0 Y.x1 Y.y1 po pn pm 26); have HO4 := hid ((HO2.out.below hb3).below ((Below.refl _ _).alloc (Nat.le_refl _) (.cells #[.int .i64 Y.x0, .int .i64 Y.y0, .int .i64 Y.x1, .int .i64 Y.y1, .slice po pn pm] 26))); have H54 := hid ((H52.out.below hb3).below ((Below.refl _ _).alloc (Nat.le_refl _) (.cells #[.int .i64 Y.x0, .int .i64 Y.y0, .int .i64 Y.x1, .int .i64 Y.y1, .slice po pn pm] 26))); replace HX := hid ((HX.out.below hb3).below ((Below.refl _ _).alloc (Nat.le_refl _) (.cells #[.int .i64 Y.x0, .int .i64 Y.y0, .int .i64 Y.x1, .int .i64 Y.y1, .slice po pn pm] 26))); clear hr hO hg1 hg2 hln hb3; clear b0 b1 b2 b3 b4 bf r0 r1 r2 r3 rf e0 e1 e2 e3 ef; obtain ⟨b0, b1, b2, b3, b4, bf⟩ := HX.out.b; obtain ⟨r0, r1, r2, r3, rf⟩ := HX.out.d; obtain ⟨e0, e1, e2, e3, ef⟩ := HX.out.e))
  have hcn5 : cn ≤ 5000 := by have h1 := HLC.out; have h2 := HZS.out.2.1; rw [img_len] at h1; omega
  have hpn5 : pn ≤ 5000 := by have h1 := HLP.out; have h2 := HZS.out.2.2.2; rw [img_len] at h1; omega
  clear b0 b1 b2 b3 b4 bf r0 r1 r2 r3 rf e0 e1 e2 e3 ef
  clear HO2 H52
  generalize w3.alloc (.cells #[.int .i64 Y.x0, .int .i64 Y.y0, .int .i64 Y.x1, .int .i64 Y.y1, .slice po pn pm] 26) = W1 at HO3 H53 HO4 H54 HX ⊢
  generalize w3.heap.size = k8 at H53 ⊢
  generalize w2.heap.size = k7 at H54 ⊢
  have HS0 := HX
  clear HX
  go_loopg [13] (E.y1 - E.y0).toNat (fun gh v13 wr => ∃ y, E.y0 ≤ y ∧ y ≤ 33554432 ∧ gh = (E.y1 - y).toNat ∧ v13 = .int .i64 y ∧ Below W1.heap.size W1 wr)
  case atStart => exact ⟨E.y0, Int.le_refl _, hd3, rfl, rfl, Below.refl _ _⟩
  case round =>
    obtain ⟨y, hy0, hy1, rfl, rfl, hB⟩ := hrel
    have HB := hid hB
    obtain ⟨e0, e1, e2, e3, ef⟩ := HS0.out.e.below hB
    clear hB
    by_cases hlt : y < E.y1
    · go_wp2
      go_loopg [14] (E.x1 - E.x0).toNat (fun gh v14 wr => ∃ x, E.x0 ≤ x ∧ x ≤ 33554432 ∧ gh = (E.x1 - x).toNat ∧ v14 = .int .i64 x ∧ Below W1.heap.size W1 wr)
      case atStart => exact ⟨E.x0, Int.le_refl _, hd1, rfl, rfl, HB.out⟩
      case round =>
        clear HB e0 e1 e2 e3 ef
        obtain ⟨x, hx0, hx1, rfl, rfl, hB⟩ := hrel
        have HB := hid hB
        obtain ⟨e0, e1, e2, e3, ef⟩ := HS0.out.e.below hB
        obtain ⟨r0, r1, r2, r3, rf⟩ := HS0.out.d.below hB
        by_cases hltx : x < E.x1
        · clear hB
          by_cases c0 : D.x0 ≤ x
          case neg =>
            have n0 : x < D.x0 := by omega
            go_wp2
            go_quiet (fail)
            go_wp2
            go_roundg (E.x1 - (x + 1)).toNat
            case measure => omega
            case rel => exact ⟨x + 1, by omega, by omega, rfl, rfl, below_drewN HB.out _⟩
          by_cases c1 : x < D.x1
          case neg =>
            have n1 : D.x1 ≤ x := by omega
            go_wp2
            go_quiet (fail)
            go_wp2
            go_roundg (E.x1 - (x + 1)).toNat
            case measure => omega
            case rel => exact ⟨x + 1, by omega, by omega, rfl, rfl, below_drewN HB.out _⟩
          by_cases c2 : D.y0 ≤ y
          case neg =>
            have n2 : y < D.y0 := by omega
            go_wp2
            go_quiet (fail)
            go_wp2
            go_roundg (E.x1 - (x + 1)).toNat
            case measure => omega
            case rel => exact ⟨x + 1, by omega, by omega, rfl, rfl, below_drewN HB.out _⟩
          by_cases c3 : y < D.y1
          case neg =>
            have n3 : D.y1 ≤ y := by omega
            go_wp2
            go_quiet (fail)
            go_wp2
            go_roundg (E.x1 - (x + 1)).toNat
            case measure => omega
            case rel => exact ⟨x + 1, by omega, by omega, rfl, rfl, below_drewN HB.out _⟩
          have HQ1 : Hid (atX Z (blurG (atX B f) a b) x y = (blurG (atX B f) a b) x y) := by show atX Z _ x y = _; rw [← HZ.out]; exact at_box (decide_eq_true (by omega))
          have HQ2 : Hid (atX Y (blurG (atX B f) a b) x y = (blurG (atX B f) a b) x y) := by show atX Y _ x y = _; rw [← HY.out]; exact at_box (decide_eq_true (by omega))
          obtain ⟨q, hq⟩ : ∃ q, q = (blurG (atX B f) a b) x y := ⟨_, rfl⟩
          rw [← hq] at HQ1 HQ2
          have hqq := eqB_yes (p := q) (q := q) rfl
          have HVc : Hid (Vx wr.drew co cn cm cg coff (img Z (blurG (atX B f) a b))) := HO4.out.below HB.out.drew
          have hS : S55 k7 k8 Z Y (.slice co cn cm) (.slice po pn pm) wr := ⟨s5c_of (H54.out.below HB.out), s5c_of (H53.out.below HB.out)⟩
          clear hq
          go_wp2
          clear e0 e1 e2 e3 ef
          go_region_held3 (fun w' => (w'.cell? ⟨k7, 0, none⟩ = some (.int .i64 Z.x0) ∧ w'.cell? ⟨k7, 1, none⟩ = some (.int .i64 Z.y0) ∧ w'.cell? ⟨k7, 2, none⟩ = some (.int .i64 Z.x1) ∧ w'.cell? ⟨k7, 3, none⟩ = some (.int .i64 Z.y1) ∧ w'.cell? ⟨k7, 4, none⟩ = some (.slice co cn cm)) ∧ (w'.cell? ⟨k8, 0, none⟩ = some (.int .i64 Y.x0) ∧ w'.cell? ⟨k8, 1, none⟩ = some (.int .i64 Y.y0) ∧ w'.cell? ⟨k8, 2, none⟩ = some (.int .i64 Y.x1) ∧ w'.cell? ⟨k8, 3, none⟩ = some (.int .i64 Y.y1) ∧ w'.cell? ⟨k8, 4, none⟩ = some (.slice po pn pm))) (repeat (first | with_reducible assumption | with_reducible refine s55_drew ?_ | with_reducible refine s55_below ?_ ‹_›))
            ((first
            | (go_at_call 14; with_reducible refine Calls.mono (refAt_any Z co cn cm cg coff (blurG (atX B f) a b) x y _ HZS.out.1 (by omega) (by omega) (by omega) HVc.out) ?_; rintro e w5 ⟨rfl, hb5⟩; rw [HQ1.out]; have HB5 := hid (Rc.via HB.out.drew hb5))
            | (go_at_call 14; with_reducible refine Calls.mono (refAt_any Y po pn pm pg poff (blurG (atX B f) a b) x y _ HZS.out.2.2.1 (by omega) (by omega) (by omega) (HO3.out.below HB5.out)) ?_; rintro e w6 ⟨rfl, hb6⟩; rw [HQ2.out]; have HB6 := hid (Rc.via HB5.out hb6))))
          go_wp2
          go_roundg (E.x1 - (x + 1)).toNat
          case measure => omega
          case rel => exact ⟨x + 1, by omega, by omega, rfl, rfl, HB6.out⟩
        · clear hB
          go_wp2
          go_roundg (E.y1 - (y + 1)).toNat
          case measure => omega
          case rel => exact ⟨y + 1, by omega, by omega, rfl, rfl, HB.out⟩
    · go_wp2
      go_ret
      exact ⟨rfl, (HS0.out.below HB.out).low⟩

theorem own : ownKnob Try.prog.godebug = none := by kernel_rfl

set_option maxRecDepth 100000 in
theorem lifted (os : Os) (started : os.Started) (H : Type) (enc : TypeId × Value → H) :
    ReturnsInHanded {} Try.checked os 6 .any (Rows.blurPartsSpec.pre6 enc Try.prog Try.f6 Rows.blurPartsRow.domain false) (Rows.blurPartsSpec.post enc Try.prog Try.f6 false true false false) := by
  refine returnsInHanded_of_change (C := Try.checked) own started (by kernel_rfl) Try.func6
    (ChangeSpec.witness6 (enc := enc) (C := Try.checked) false ⟨#[], #[.agg #[.int .i64 0, .int .i64 0, .int .i64 0, .int .i64 0, .slice none 0 0], .agg #[.int .i64 0, .int .i64 0, .int .i64 0, .int .i64 0], .agg #[.int .i64 0, .int .i64 0, .int .i64 0, .int .i64 0], .int .i64 0, .int .i64 0], []⟩ 8 (by kernel_rfl) (by kernel_rfl) (by kernel_rfl) (by kernel_rfl)) ?_
  intro W base args ds gs before hval0 hW hcnd _
  have hval : ∀ (j : Nat) t v, Try.f6.params[j]? = some t → args[j]? = some v → Value.okWide Try.prog W .any base t v := hval0
  have hW' := hW
  obtain ⟨p, q, hA0, hV, rfl, hfz, hnd⟩ := hW
  have hA : DataW.TrodAll enc Try.prog W 0 (fun _ => true) true Try.f6.params.toList args.toList ds p := hA0
  rw [Try.params6] at hA hval
  obtain ⟨v0, vs0, d0, ds0, p0, q0, hargs, rfl, rfl, h0, r0⟩ := trodAll_cons hA
  obtain ⟨v1, vs1, d1, ds1, p1, q1, rfl, rfl, rfl, h1, r1⟩ := trodAll_cons r0
  obtain ⟨v2, vs2, d2, ds2, p2, q2, rfl, rfl, rfl, h2, r2⟩ := trodAll_cons r1
  obtain ⟨v3, vs3, d3, ds3, p3, q3, rfl, rfl, rfl, h3, r3⟩ := trodAll_cons r2
  obtain ⟨v4, vs4, d4, ds4, p4, q4, rfl, rfl, rfl, h4, r4⟩ := trodAll_cons r3
  obtain ⟨rfl, rfl, rfl⟩ := trodAll_nil r4
  obtain rfl : args = #[v0, v1, v2, v3, v4] := by cases args; simp_all
  obtain ⟨rfl, rfl⟩ := trodVars_none hV
  obtain ⟨B, ao, n, c, g, off, l, rfl, hv0, hp0⟩ := open_buf (hval 0 26 v0 rfl rfl) h0
  obtain ⟨D, rfl⟩ := open_rect (hval 1 23 v1 rfl rfl) h1
  obtain ⟨E, rfl⟩ := open_rect (hval 2 23 v2 rfl rfl) h2
  obtain ⟨rx, rfl, -, -, -⟩ := open_int Try.underlying3 (hval 3 3 v3 rfl rfl) h3
  obtain ⟨ry, rfl, -, -, -⟩ := open_int Try.underlying3 (hval 4 3 v4 rfl rfl) h4
  clear hA0 hval0
  simp only [List.append_nil] at hW'
  have hlt : ∀ x ∈ p0 ++ (p1 ++ (p2 ++ (p3 ++ (p4)))), x.block < W.heap.size := fun x hx => by simpa using hW'.lt x (by simpa using hx)
  refine (walk B ao n c g off l D E rx ry W hv0 hp0).mono fun e W' ⟨he, hg⟩ => ?_
  subst he
  have t0 := Below.trod laidOut (by kernel_rfl) (of_decide_eq_true (by kernel_rfl)) h0 hg (fun x hx => hlt x (List.mem_append_left _ hx))
  have t1 := Below.trod laidOut (by kernel_rfl) (of_decide_eq_true (by kernel_rfl)) h1 hg (fun x hx => hlt x (List.mem_append_right _ (List.mem_append_left _ hx)))
  have t2 := Below.trod laidOut (by kernel_rfl) (of_decide_eq_true (by kernel_rfl)) h2 hg (fun x hx => hlt x (List.mem_append_right _ (List.mem_append_right _ (List.mem_append_left _ hx))))
  have t3 := Below.trod laidOut (by kernel_rfl) (of_decide_eq_true (by kernel_rfl)) h3 hg (fun x hx => hlt x (List.mem_append_right _ (List.mem_append_right _ (List.mem_append_right _ (List.mem_append_left _ hx)))))
  have t4 := Below.trod laidOut (by kernel_rfl) (of_decide_eq_true (by kernel_rfl)) h4 hg (fun x hx => hlt x (List.mem_append_right _ (List.mem_append_right _ (List.mem_append_right _ (List.mem_append_right _ (hx))))))
  exact ⟨_, rfl, ⟨_, _, _, _, _, _, hW', (trodAll_cons_mk (shut_bool Try.underlying4 _) trodAll_mk0), (trodAll_cons_mk t0 (trodAll_cons_mk t1 (trodAll_cons_mk t2 (trodAll_cons_mk t3 (trodAll_cons_mk t4 trodAll_mk0))))), rfl, hg.frame _, fun h => by cases h⟩⟩

theorem over : Rows.blurPartsRow.holds Try.pinned (OpenSpec.ofChange Rows.blurPartsSpec) :=
  OpenClaim.holds_of_wide 6 Try.f6 rfl rfl rfl rfl rfl rfl rfl ⟨rfl, rfl, rfl, rfl, rfl⟩ rfl rfl rfl rfl rfl (by kernel_rfl) Try.func6 (by kernel_rfl)
    (of_decide_eq_true (by kernel_rfl)) (by unfold Func.isWrapper; first | (rw [if_pos (by decide +kernel)]; kernel_rfl) | (rw [if_neg (by decide +kernel)]; exact ⟨rfl, rfl⟩))
    (fun os started H enc _ => lifted os started H enc)

theorem proved : Rows.BlurPartsSaid := over
#print axioms proved
end Go.Proofs.Ytbcgnnjkhgpkmaa.blurParts
