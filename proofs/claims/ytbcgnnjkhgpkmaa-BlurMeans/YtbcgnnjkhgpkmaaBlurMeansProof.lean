/- Along a row alone each value is the nearest to the mean of those around it; no condition. -/
import Derived.Test.YtbcgnnjkhgpkmaaRows
import Derived.WalkKit
import Derived.ProofKit
import Derived.OpenShut
import Derived.Test.YtbcgnnjkhgpkmaaOpen
import Derived.Test.YtbcgnnjkhgpkmaaKit
import Derived.Deep.LoopGhost
import Derived.Deep.Light
namespace Go.Proofs.Ytbcgnnjkhgpkmaa.blurMeans
open Go.ChangeShapes Go.WideShapes Go.ChangeAt Go.RowKit Num
set_option linter.unusedVariables false
set_option linter.unusedSimpArgs false
theorem blur_row (u : Int → Int → X) (a : Nat) (x y : Int) : blurG u a 0 x y = rowG u a x y := by
  unfold blurG colG
  show meanX (addX noX (rowG u a x (y - 0 + 0))) 0 = rowG u a x y
  rw [mean_0, show y - 0 + 0 = y by omega]
  unfold addX noX
  apply X_ext <;> dsimp only <;> omega

set_option maxRecDepth 100000 in
set_option maxHeartbeats 4000000 in
theorem walk (B : R) (ao : Option Addr) (n m g off : Nat) (l : List X) (D : R) (rx : Int) (W : World) (h : Vx W ao n m g off l) (hp : ∀ p, p ∈ l → byteX p) :
    Calls Try.prog 4 #[.agg #[.int .i64 B.x0, .int .i64 B.y0, .int .i64 B.x1, .int .i64 B.y1, .slice ao n m], .agg #[.int .i64 D.x0, .int .i64 D.y0, .int .i64 D.x1, .int .i64 D.y1], .int .i64 rx] W fun e w' => e = .returned (.bool true) ∧ Below W.heap.size W w' := by
  have hn := vx_small h
  have HX : Hid (Kx W B D ao n m ((W.alloc (.cells #[.int .i64 B.x0, .int .i64 B.y0, .int .i64 B.x1, .int .i64 B.y1, .slice ao n m] 26)).alloc (.cells #[.int .i64 D.x0, .int .i64 D.y0, .int .i64 D.x1, .int .i64 D.y1] 23))) := kx_new W B D ao n m
  obtain ⟨b0, b1, b2, b3, b4, bf⟩ := HX.out.b
  obtain ⟨r0, r1, r2, r3, rf⟩ := HX.out.d
  rcases hF : fineQ B n D rx 0 with _ | _
  · have HR := hid hF
    clear hF h hp
    go_enter Try.func4, Try.ntmps4
    go_wp2_with (first | (go_at_call 9; with_reducible refine Calls.mono (awake_any _) ?_; rintro e wc ⟨rfl, hb⟩; replace HX := hid (HX.out.below hb); clear hb; clear b0 b1 b2 b3 b4 bf r0 r1 r2 r3 rf; obtain ⟨b0, b1, b2, b3, b4, bf⟩ := HX.out.b; obtain ⟨r0, r1, r2, r3, rf⟩ := HX.out.d) | (go_at_call 10; with_reducible refine Calls.mono (fine_any B ao n m D rx 0 _ hn) ?_; rintro e wc ⟨rfl, hb⟩; rw [HR.out]; replace HX := hid (HX.out.below hb); clear hb; clear b0 b1 b2 b3 b4 bf r0 r1 r2 r3 rf; obtain ⟨b0, b1, b2, b3, b4, bf⟩ := HX.out.b; obtain ⟨r0, r1, r2, r3, rf⟩ := HX.out.d))
    go_ret
    exact ⟨rfl, HX.out.low⟩
  obtain ⟨a, b, hG⟩ := good8 hF
  have hU := bu_of h hp hG
  have hrx := hG.hrx
  obtain rfl : b = 0 := by have := hG.hry; omega
  have HR := hid hF
  clear hF hp
  subst hrx
  obtain ⟨f, hf⟩ : ∃ f, f = unimg B l := ⟨_, rfl⟩
  have e1 := hU.im
  rw [← hf] at e1
  have HU : Hid (n ≤ 5000 ∧ bufB B n = true ∧ (∀ x y, byteX (f x y)) ∧ Ok B ∧ Half D ∧ area (grow D (a : Int) 0 (a : Int) 0) ≤ 5000 ∧ a ≤ 255) := ⟨hU.n5, hU.buf, by rw [hf]; exact hU.byt, hU.ok, hU.half, hU.few, hU.a⟩
  have hn5 := hU.n5
  have ha255 := hU.a
  obtain ⟨⟨hd0, hd1⟩, ⟨hd2, hd3⟩, ⟨hd4, hd5⟩, hd6, hd7⟩ := hU.half
  have HZS : Hid (Ok (orN D) ∧ wid (orN D) * hei (orN D) ≤ 5000) := by
    have := buf_new hU.half.ok (Int.le_trans (grow_area (ry := 0) hU.half hU.a (by omega)) hU.few)
    exact ⟨ok_orN hU.half.ok, this.2.1⟩
  subst e1
  have HV := hid h
  obtain ⟨Z, hZ⟩ : ∃ Z, Z = orN D := ⟨_, rfl⟩
  rw [← hZ] at HZS
  have HZ := hid hZ.symm
  clear hU hG h hf hZ
  go_enter Try.func4, Try.ntmps4
  go_wp2_with (first
    | (go_at_call 9; with_reducible refine Calls.mono (awake_any _) ?_; rintro e wc ⟨rfl, hb⟩; replace HX := hid (HX.out.below hb); clear hb; clear b0 b1 b2 b3 b4 bf r0 r1 r2 r3 rf; obtain ⟨b0, b1, b2, b3, b4, bf⟩ := HX.out.b; obtain ⟨r0, r1, r2, r3, rf⟩ := HX.out.d)
    | (go_at_call 10; with_reducible refine Calls.mono (fine_any B ao n m D (a : Int) 0 _ hn) ?_; rintro e wc ⟨rfl, hb⟩; rw [HR.out]; replace HX := hid (HX.out.below hb); clear hb; clear b0 b1 b2 b3 b4 bf r0 r1 r2 r3 rf; obtain ⟨b0, b1, b2, b3, b4, bf⟩ := HX.out.b; obtain ⟨r0, r1, r2, r3, rf⟩ := HX.out.d)
    | (go_at_call 12; with_reducible refine Calls.mono (box_a0 B ao n m g off f D a _ HU.out.2.1 HU.out.1 (HV.out.below HX.out.low) HU.out.2.2.1 HU.out.2.2.2.2.1 HU.out.2.2.2.2.2.1 HU.out.2.2.2.2.2.2) ?_; rintro e w2 ⟨hr, hb2⟩; rw [HZ.out] at hr; obtain ⟨co, cn, cm, cg, coff, rfl, hO, hg1, hg2, hln⟩ := retG hr; have HLC := hid hln; have HO := hid hO.v; have HX2 := hid (HX.out.below hb2); clear hr hO hg1 hg2 hln hb2; clear b0 b1 b2 b3 b4 bf r0 r1 r2 r3 rf; obtain ⟨r0, r1, r2, r3, rf⟩ := (HX2.out.d).alloc (.cells #[.int .i64 Z.x0, .int .i64 Z.y0, .int .i64 Z.x1, .int .i64 Z.y1, .slice co cn cm] 26)))
  have hcn5 : cn ≤ 5000 := by have h1 := HLC.out; have h2 := HZS.out.2; rw [img_len] at h1; omega
  have HS0 : Hid (Vx (w2.alloc (.cells #[.int .i64 Z.x0, .int .i64 Z.y0, .int .i64 Z.x1, .int .i64 Z.y1, .slice co cn cm] 26)) co cn cm cg coff (img Z (blurG (atX B f) a 0)) ∧ Has5 (w2.alloc (.cells #[.int .i64 Z.x0, .int .i64 Z.y0, .int .i64 Z.x1, .int .i64 Z.y1, .slice co cn cm] 26)) w2.heap.size Z co cn cm ∧ Kx W B D ao n m (w2.alloc (.cells #[.int .i64 Z.x0, .int .i64 Z.y0, .int .i64 Z.x1, .int .i64 Z.y1, .slice co cn cm] 26))) := ⟨HO.out.below ((Below.refl _ _).alloc (Nat.le_refl _) _), Has5.new rfl _ _ _ _ _ _ _ _, HX2.out.below ((Below.refl _ _).alloc (Nat.le_refl _) _)⟩
  clear HX HX2 HO r0 r1 r2 r3 rf
  generalize w2.alloc (.cells #[.int .i64 Z.x0, .int .i64 Z.y0, .int .i64 Z.x1, .int .i64 Z.y1, .slice co cn cm] 26) = W1 at HS0 ⊢
  generalize w2.heap.size = k7 at HS0 ⊢
  go_loopg [9] (D.y1 - D.y0).toNat (fun gh v9 wr => ∃ y, D.y0 ≤ y ∧ y ≤ 33554432 ∧ gh = (D.y1 - y).toNat ∧ v9 = .int .i64 y ∧ Below W1.heap.size W1 wr)
  case atStart => exact ⟨D.y0, Int.le_refl _, hd3, rfl, rfl, Below.refl _ _⟩
  case round =>
    obtain ⟨y, hy0, hy1, rfl, rfl, hB⟩ := hrel
    have HB := hid hB
    obtain ⟨r0, r1, r2, r3, rf⟩ := HS0.out.2.2.d.below hB
    clear hB
    by_cases hlt : y < D.y1
    · go_wp2
      go_loopg [10] (D.x1 - D.x0).toNat (fun gh v10 wr => ∃ x, D.x0 ≤ x ∧ x ≤ 33554432 ∧ gh = (D.x1 - x).toNat ∧ v10 = .int .i64 x ∧ Below W1.heap.size W1 wr)
      case atStart => exact ⟨D.x0, Int.le_refl _, hd1, rfl, rfl, HB.out⟩
      case round =>
        clear HB r0 r1 r2 r3 rf
        obtain ⟨x, hx0, hx1, rfl, rfl, hB⟩ := hrel
        have HB := hid hB
        obtain ⟨r0, r1, r2, r3, rf⟩ := HS0.out.2.2.d.below hB
        by_cases hltx : x < D.x1
        · have HZD : Hid (Z = D) := by show Z = D; rw [← HZ.out]; exact orN_no (emp_no (by omega) (by omega))
          have HQA : Hid (atX Z (blurG (atX B f) a 0) x y = rowG (atX B f) a x y) := by
            show atX Z _ x y = _
            unfold atX
            rw [HZD.out, if_pos (show hasB D x y = true from decide_eq_true (by omega))]
            exact blur_row _ a x y
          obtain ⟨q, hq⟩ : ∃ q, q = rowG (atX B f) a x y := ⟨_, rfl⟩
          have HQ : Hid (q = meanX (sumX (fun v => atX B f v y) (x - (a : Int)) (2 * a + 1)) (a : Int)) := hq
          have HQB : Hid ((0 ≤ q.c0 ∧ q.c0 ≤ 255) ∧ (0 ≤ q.c1 ∧ q.c1 ≤ 255) ∧ (0 ≤ q.c2 ∧ q.c2 ≤ 255) ∧ (0 ≤ q.c3 ∧ q.c3 ≤ 255)) := by rw [hq]; exact row_byte (fun u v => at_byte HU.out.2.2.1 u v) a x y
          rw [← hq] at HQA
          obtain ⟨s0, s1, s2, s3, s4, sf⟩ := HS0.out.2.1.below hB
          have HVc : Hid (Vx wr co cn cm cg coff (img Z (blurG (atX B f) a 0))) := HS0.out.1.below hB
          clear hB hq
          go_wp2_with (go_at_call 14; with_reducible refine Calls.mono (refAt_any Z co cn cm cg coff (blurG (atX B f) a 0) _ _ _ HZS.out.1 (by omega) (by omega) (by omega) HVc.out) ?_; rintro e w3 ⟨rfl, hb3⟩; rw [HQA.out]; have HB3 := hid (Rc.via HB.out hb3); clear hb3)
          have HK2 : Hid (Kx W B D ao n m (w3.alloc (.cells #[.int .u8 q.c0, .int .u8 q.c1, .int .u8 q.c2, .int .u8 q.c3] 32))) := (HS0.out.2.2.below HB3.out).below ((Below.refl _ _).alloc (Nat.le_refl _) _)
          have HLO : Hid (Below W.heap.size W (w3.alloc (.cells #[.int .u8 q.c0, .int .u8 q.c1, .int .u8 q.c2, .int .u8 q.c3] 32))) := HK2.out.low
          have HPX2 : Hid (Rc.Has4 (w3.alloc (.cells #[.int .u8 q.c0, .int .u8 q.c1, .int .u8 q.c2, .int .u8 q.c3] 32)) w3.heap.size (.int .u8 q.c0) (.int .u8 q.c1) (.int .u8 q.c2) (.int .u8 q.c3)) := Rc.Has4.new rfl _ _ _ _ _
          have HB2 : Hid (Below W1.heap.size W1 (w3.alloc (.cells #[.int .u8 q.c0, .int .u8 q.c1, .int .u8 q.c2, .int .u8 q.c3] 32))) := HB3.out.alloc HB3.out.size _
          clear HB HB3 HVc s0 s1 s2 s3 s4 sf r0 r1 r2 r3 rf
          generalize w3.alloc (.cells #[.int .u8 q.c0, .int .u8 q.c1, .int .u8 q.c2, .int .u8 q.c3] 32) = W2 at HK2 HLO HPX2 HB2 ⊢
          generalize w3.heap.size = k11 at HPX2 ⊢
          go_loopg [12] 4 (fun gh v12 wr => ∃ i : Nat, i ≤ 4 ∧ gh = 4 - i ∧ v12 = .int .i64 (i : Int) ∧ Below W2.heap.size W2 wr)
          case atStart => exact ⟨0, Nat.zero_le _, rfl, rfl, Below.refl _ _⟩
          case round =>
            obtain ⟨i, hi, rfl, rfl, hB4⟩ := hrel
            obtain rfl | rfl | rfl | rfl | rfl : i = 0 ∨ i = 1 ∨ i = 2 ∨ i = 3 ∨ i = 4 := by omega
            · have HS4 := hid hB4
              clear hB4
              have hq0 : 0 ≤ q.c0 ∧ q.c0 ≤ 255 := HQB.out.1
              obtain ⟨P, hP⟩ : ∃ P, q.c0 * (2 * (a : Int) + 1) = P := ⟨_, rfl⟩
              have hPb : 0 ≤ P ∧ P ≤ 255 * (2 * (a : Int) + 1) := by
                rw [← hP]
                exact ⟨Int.mul_nonneg hq0.1 (by omega), Int.mul_le_mul_of_nonneg_right hq0.2 (by omega)⟩
              obtain ⟨P0, P1⟩ := hPb
              obtain ⟨hq0, hq1⟩ := hq0
              have HD : Hid (2 * (P - (sumX (fun v => atX B f v y) (x - (a : Int)) (2 * a + 1)).c0) < 2 * (a : Int) + 1 ∧ -(2 * (a : Int) + 1) < 2 * (P - (sumX (fun v => atX B f v y) (x - (a : Int)) (2 * a + 1)).c0)) := by
                have := mean_near (s := (sumX (fun v => atX B f v y) (x - (a : Int)) (2 * a + 1)).c0) (r := (a : Int)) (by omega)
                rw [show meanI (sumX (fun v => atX B f v y) (x - (a : Int)) (2 * a + 1)).c0 (a : Int) = q.c0 by rw [HQ.out]; rfl, hP] at this
                exact this
              have HPE := hid hP
              clear hP
              go_wp2
              go_loopg [13, 14] (2 * a + 1) (fun gh v13 v14 wr => ∃ v, -(a : Int) ≤ v ∧ v ≤ (a : Int) + 1 ∧ gh = ((a : Int) + 1 - v).toNat ∧ v14 = .int .i64 v ∧ v13 = .int .i64 (sumX (fun v => atX B f v y) (x - (a : Int)) (v + (a : Int)).toNat).c0 ∧ Below W2.heap.size W2 wr)
              case atStart => exact ⟨-(a : Int), Int.le_refl _, by omega, by omega, rfl, by rw [show (-(a : Int) + (a : Int)).toNat = 0 by omega]; rfl, HS4.out⟩
              case round =>
                clear HS4
                obtain ⟨v, hv0, hv1, rfl, rfl, rfl, hB5⟩ := hrel
                have HS5 := hid hB5
                obtain ⟨s, hs⟩ : ∃ s, s = (sumX (fun v => atX B f v y) (x - (a : Int)) (v + (a : Int)).toNat).c0 := ⟨_, rfl⟩
                rw [← hs]
                by_cases hltv : v ≤ (a : Int)
                · obtain ⟨p, hp⟩ : ∃ p, p = atX B f (x + v) y := ⟨_, rfl⟩
                  have HPX : Hid (atX B f (x + v) y = p) := hp.symm
                  have hpb : byteX p := by rw [hp]; exact at_byte HU.out.2.2.1 _ _
                  obtain ⟨⟨c0, c1⟩, ⟨c2, c3⟩, ⟨c4, c5⟩, c6, c7⟩ := hpb
                  have HT : Hid (s + p.c0 = (sumX (fun v => atX B f v y) (x - (a : Int)) (v + 1 + (a : Int)).toNat).c0) := by
                    show s + p.c0 = _
                    rw [show (v + 1 + (a : Int)).toNat = (v + (a : Int)).toNat + 1 by omega, sumX, hs, hp]
                    show _ = _ + (atX B f (x - (a : Int) + ((v + (a : Int)).toNat : Nat)) y).c0
                    rw [show x - (a : Int) + (((v + (a : Int)).toNat : Nat) : Int) = x + v by omega]
                  have hsb : 0 ≤ s ∧ s ≤ 255 * 511 := by
                    have h1 := sum_up (h := fun v => atX B f v y) (fun u => at_byte HU.out.2.2.1 u y) (x - (a : Int)) (v + (a : Int)).toNat
                    rw [hs]
                    unfold upX at h1
                    omega
                  obtain ⟨sb0, sb1⟩ := hsb
                  have g0 : IntKind.i64.wrap p.c0 = p.c0 := by rw [IntKind.wrap_i64]; omega
                  have i0 := index0
                  have hLW := HLO.out.trans (hB5.mono HLO.out.size)
                  obtain ⟨b0, b1, b2, b3, b4, bf⟩ := HK2.out.b.below hB5
                  have HVb : Hid (Vx wr ao n m g off (img B f)) := HV.out.below hLW
                  clear hB5 hLW hp hs
                  go_wp2_with (go_at_call 14; with_reducible refine Calls.mono (refAt_any B ao n m g off f _ _ _ HU.out.2.2.2.1 (by omega) (by omega) (by omega) HVb.out) ?_; rintro e w6 ⟨rfl, hb6⟩; rw [HPX.out]; have HS6 := hid (Rc.via HS5.out hb6); clear hb6)
                  go_roundg ((a : Int) + 1 - (v + 1)).toNat
                  case measure => omega
                  case rel => exact ⟨v + 1, by omega, by omega, rfl, rfl, by rw [HT.out], HS6.out⟩
                · obtain rfl : v = (a : Int) + 1 := by omega
                  rw [show ((a : Int) + 1 + (a : Int)).toNat = 2 * a + 1 by omega] at hs
                  have hd := HD.out
                  rw [← hs] at hd
                  obtain ⟨hd0, hd1⟩ := hd
                  have hsb : 0 ≤ s ∧ s ≤ 255 * 511 := by
                    have h1 := sum_up (h := fun v => atX B f v y) (fun u => at_byte HU.out.2.2.1 u y) (x - (a : Int)) (2 * a + 1)
                    rw [hs]
                    unfold upX at h1
                    omega
                  obtain ⟨sb0, sb1⟩ := hsb
                  have hP := HPE.out
                  obtain ⟨t0, t1, t2, t3, tf⟩ := HPX2.out.below hB5
                  clear hB5 hs
                  go_wp2
                  go_roundg (4 - 1)
                  case measure => decide
                  case rel => exact ⟨1, by decide, rfl, rfl, HS5.out⟩
            · have HS4 := hid hB4
              clear hB4
              have hq0 : 0 ≤ q.c1 ∧ q.c1 ≤ 255 := HQB.out.2.1
              obtain ⟨P, hP⟩ : ∃ P, q.c1 * (2 * (a : Int) + 1) = P := ⟨_, rfl⟩
              have hPb : 0 ≤ P ∧ P ≤ 255 * (2 * (a : Int) + 1) := by
                rw [← hP]
                exact ⟨Int.mul_nonneg hq0.1 (by omega), Int.mul_le_mul_of_nonneg_right hq0.2 (by omega)⟩
              obtain ⟨P0, P1⟩ := hPb
              obtain ⟨hq0, hq1⟩ := hq0
              have HD : Hid (2 * (P - (sumX (fun v => atX B f v y) (x - (a : Int)) (2 * a + 1)).c1) < 2 * (a : Int) + 1 ∧ -(2 * (a : Int) + 1) < 2 * (P - (sumX (fun v => atX B f v y) (x - (a : Int)) (2 * a + 1)).c1)) := by
                have := mean_near (s := (sumX (fun v => atX B f v y) (x - (a : Int)) (2 * a + 1)).c1) (r := (a : Int)) (by omega)
                rw [show meanI (sumX (fun v => atX B f v y) (x - (a : Int)) (2 * a + 1)).c1 (a : Int) = q.c1 by rw [HQ.out]; rfl, hP] at this
                exact this
              have HPE := hid hP
              clear hP
              go_wp2
              go_loopg [13, 14] (2 * a + 1) (fun gh v13 v14 wr => ∃ v, -(a : Int) ≤ v ∧ v ≤ (a : Int) + 1 ∧ gh = ((a : Int) + 1 - v).toNat ∧ v14 = .int .i64 v ∧ v13 = .int .i64 (sumX (fun v => atX B f v y) (x - (a : Int)) (v + (a : Int)).toNat).c1 ∧ Below W2.heap.size W2 wr)
              case atStart => exact ⟨-(a : Int), Int.le_refl _, by omega, by omega, rfl, by rw [show (-(a : Int) + (a : Int)).toNat = 0 by omega]; rfl, HS4.out⟩
              case round =>
                clear HS4
                obtain ⟨v, hv0, hv1, rfl, rfl, rfl, hB5⟩ := hrel
                have HS5 := hid hB5
                obtain ⟨s, hs⟩ : ∃ s, s = (sumX (fun v => atX B f v y) (x - (a : Int)) (v + (a : Int)).toNat).c1 := ⟨_, rfl⟩
                rw [← hs]
                by_cases hltv : v ≤ (a : Int)
                · obtain ⟨p, hp⟩ : ∃ p, p = atX B f (x + v) y := ⟨_, rfl⟩
                  have HPX : Hid (atX B f (x + v) y = p) := hp.symm
                  have hpb : byteX p := by rw [hp]; exact at_byte HU.out.2.2.1 _ _
                  obtain ⟨⟨c0, c1⟩, ⟨c2, c3⟩, ⟨c4, c5⟩, c6, c7⟩ := hpb
                  have HT : Hid (s + p.c1 = (sumX (fun v => atX B f v y) (x - (a : Int)) (v + 1 + (a : Int)).toNat).c1) := by
                    show s + p.c1 = _
                    rw [show (v + 1 + (a : Int)).toNat = (v + (a : Int)).toNat + 1 by omega, sumX, hs, hp]
                    show _ = _ + (atX B f (x - (a : Int) + ((v + (a : Int)).toNat : Nat)) y).c1
                    rw [show x - (a : Int) + (((v + (a : Int)).toNat : Nat) : Int) = x + v by omega]
                  have hsb : 0 ≤ s ∧ s ≤ 255 * 511 := by
                    have h1 := sum_up (h := fun v => atX B f v y) (fun u => at_byte HU.out.2.2.1 u y) (x - (a : Int)) (v + (a : Int)).toNat
                    rw [hs]
                    unfold upX at h1
                    omega
                  obtain ⟨sb0, sb1⟩ := hsb
                  have g0 : IntKind.i64.wrap p.c1 = p.c1 := by rw [IntKind.wrap_i64]; omega
                  have i1 := index1
                  have hLW := HLO.out.trans (hB5.mono HLO.out.size)
                  obtain ⟨b0, b1, b2, b3, b4, bf⟩ := HK2.out.b.below hB5
                  have HVb : Hid (Vx wr ao n m g off (img B f)) := HV.out.below hLW
                  clear hB5 hLW hp hs
                  go_wp2_with (go_at_call 14; with_reducible refine Calls.mono (refAt_any B ao n m g off f _ _ _ HU.out.2.2.2.1 (by omega) (by omega) (by omega) HVb.out) ?_; rintro e w6 ⟨rfl, hb6⟩; rw [HPX.out]; have HS6 := hid (Rc.via HS5.out hb6); clear hb6)
                  go_roundg ((a : Int) + 1 - (v + 1)).toNat
                  case measure => omega
                  case rel => exact ⟨v + 1, by omega, by omega, rfl, rfl, by rw [HT.out], HS6.out⟩
                · obtain rfl : v = (a : Int) + 1 := by omega
                  rw [show ((a : Int) + 1 + (a : Int)).toNat = 2 * a + 1 by omega] at hs
                  have hd := HD.out
                  rw [← hs] at hd
                  obtain ⟨hd0, hd1⟩ := hd
                  have hsb : 0 ≤ s ∧ s ≤ 255 * 511 := by
                    have h1 := sum_up (h := fun v => atX B f v y) (fun u => at_byte HU.out.2.2.1 u y) (x - (a : Int)) (2 * a + 1)
                    rw [hs]
                    unfold upX at h1
                    omega
                  obtain ⟨sb0, sb1⟩ := hsb
                  have hP := HPE.out
                  obtain ⟨t0, t1, t2, t3, tf⟩ := HPX2.out.below hB5
                  clear hB5 hs
                  go_wp2
                  go_roundg (4 - 2)
                  case measure => decide
                  case rel => exact ⟨2, by decide, rfl, rfl, HS5.out⟩
            · have HS4 := hid hB4
              clear hB4
              have hq0 : 0 ≤ q.c2 ∧ q.c2 ≤ 255 := HQB.out.2.2.1
              obtain ⟨P, hP⟩ : ∃ P, q.c2 * (2 * (a : Int) + 1) = P := ⟨_, rfl⟩
              have hPb : 0 ≤ P ∧ P ≤ 255 * (2 * (a : Int) + 1) := by
                rw [← hP]
                exact ⟨Int.mul_nonneg hq0.1 (by omega), Int.mul_le_mul_of_nonneg_right hq0.2 (by omega)⟩
              obtain ⟨P0, P1⟩ := hPb
              obtain ⟨hq0, hq1⟩ := hq0
              have HD : Hid (2 * (P - (sumX (fun v => atX B f v y) (x - (a : Int)) (2 * a + 1)).c2) < 2 * (a : Int) + 1 ∧ -(2 * (a : Int) + 1) < 2 * (P - (sumX (fun v => atX B f v y) (x - (a : Int)) (2 * a + 1)).c2)) := by
                have := mean_near (s := (sumX (fun v => atX B f v y) (x - (a : Int)) (2 * a + 1)).c2) (r := (a : Int)) (by omega)
                rw [show meanI (sumX (fun v => atX B f v y) (x - (a : Int)) (2 * a + 1)).c2 (a : Int) = q.c2 by rw [HQ.out]; rfl, hP] at this
                exact this
              have HPE := hid hP
              clear hP
              go_wp2
              go_loopg [13, 14] (2 * a + 1) (fun gh v13 v14 wr => ∃ v, -(a : Int) ≤ v ∧ v ≤ (a : Int) + 1 ∧ gh = ((a : Int) + 1 - v).toNat ∧ v14 = .int .i64 v ∧ v13 = .int .i64 (sumX (fun v => atX B f v y) (x - (a : Int)) (v + (a : Int)).toNat).c2 ∧ Below W2.heap.size W2 wr)
              case atStart => exact ⟨-(a : Int), Int.le_refl _, by omega, by omega, rfl, by rw [show (-(a : Int) + (a : Int)).toNat = 0 by omega]; rfl, HS4.out⟩
              case round =>
                clear HS4
                obtain ⟨v, hv0, hv1, rfl, rfl, rfl, hB5⟩ := hrel
                have HS5 := hid hB5
                obtain ⟨s, hs⟩ : ∃ s, s = (sumX (fun v => atX B f v y) (x - (a : Int)) (v + (a : Int)).toNat).c2 := ⟨_, rfl⟩
                rw [← hs]
                by_cases hltv : v ≤ (a : Int)
                · obtain ⟨p, hp⟩ : ∃ p, p = atX B f (x + v) y := ⟨_, rfl⟩
                  have HPX : Hid (atX B f (x + v) y = p) := hp.symm
                  have hpb : byteX p := by rw [hp]; exact at_byte HU.out.2.2.1 _ _
                  obtain ⟨⟨c0, c1⟩, ⟨c2, c3⟩, ⟨c4, c5⟩, c6, c7⟩ := hpb
                  have HT : Hid (s + p.c2 = (sumX (fun v => atX B f v y) (x - (a : Int)) (v + 1 + (a : Int)).toNat).c2) := by
                    show s + p.c2 = _
                    rw [show (v + 1 + (a : Int)).toNat = (v + (a : Int)).toNat + 1 by omega, sumX, hs, hp]
                    show _ = _ + (atX B f (x - (a : Int) + ((v + (a : Int)).toNat : Nat)) y).c2
                    rw [show x - (a : Int) + (((v + (a : Int)).toNat : Nat) : Int) = x + v by omega]
                  have hsb : 0 ≤ s ∧ s ≤ 255 * 511 := by
                    have h1 := sum_up (h := fun v => atX B f v y) (fun u => at_byte HU.out.2.2.1 u y) (x - (a : Int)) (v + (a : Int)).toNat
                    rw [hs]
                    unfold upX at h1
                    omega
                  obtain ⟨sb0, sb1⟩ := hsb
                  have g0 : IntKind.i64.wrap p.c2 = p.c2 := by rw [IntKind.wrap_i64]; omega
                  have i2 := index2
                  have hLW := HLO.out.trans (hB5.mono HLO.out.size)
                  obtain ⟨b0, b1, b2, b3, b4, bf⟩ := HK2.out.b.below hB5
                  have HVb : Hid (Vx wr ao n m g off (img B f)) := HV.out.below hLW
                  clear hB5 hLW hp hs
                  go_wp2_with (go_at_call 14; with_reducible refine Calls.mono (refAt_any B ao n m g off f _ _ _ HU.out.2.2.2.1 (by omega) (by omega) (by omega) HVb.out) ?_; rintro e w6 ⟨rfl, hb6⟩; rw [HPX.out]; have HS6 := hid (Rc.via HS5.out hb6); clear hb6)
                  go_roundg ((a : Int) + 1 - (v + 1)).toNat
                  case measure => omega
                  case rel => exact ⟨v + 1, by omega, by omega, rfl, rfl, by rw [HT.out], HS6.out⟩
                · obtain rfl : v = (a : Int) + 1 := by omega
                  rw [show ((a : Int) + 1 + (a : Int)).toNat = 2 * a + 1 by omega] at hs
                  have hd := HD.out
                  rw [← hs] at hd
                  obtain ⟨hd0, hd1⟩ := hd
                  have hsb : 0 ≤ s ∧ s ≤ 255 * 511 := by
                    have h1 := sum_up (h := fun v => atX B f v y) (fun u => at_byte HU.out.2.2.1 u y) (x - (a : Int)) (2 * a + 1)
                    rw [hs]
                    unfold upX at h1
                    omega
                  obtain ⟨sb0, sb1⟩ := hsb
                  have hP := HPE.out
                  obtain ⟨t0, t1, t2, t3, tf⟩ := HPX2.out.below hB5
                  clear hB5 hs
                  go_wp2
                  go_roundg (4 - 3)
                  case measure => decide
                  case rel => exact ⟨3, by decide, rfl, rfl, HS5.out⟩
            · have HS4 := hid hB4
              clear hB4
              have hq0 : 0 ≤ q.c3 ∧ q.c3 ≤ 255 := HQB.out.2.2.2
              obtain ⟨P, hP⟩ : ∃ P, q.c3 * (2 * (a : Int) + 1) = P := ⟨_, rfl⟩
              have hPb : 0 ≤ P ∧ P ≤ 255 * (2 * (a : Int) + 1) := by
                rw [← hP]
                exact ⟨Int.mul_nonneg hq0.1 (by omega), Int.mul_le_mul_of_nonneg_right hq0.2 (by omega)⟩
              obtain ⟨P0, P1⟩ := hPb
              obtain ⟨hq0, hq1⟩ := hq0
              have HD : Hid (2 * (P - (sumX (fun v => atX B f v y) (x - (a : Int)) (2 * a + 1)).c3) < 2 * (a : Int) + 1 ∧ -(2 * (a : Int) + 1) < 2 * (P - (sumX (fun v => atX B f v y) (x - (a : Int)) (2 * a + 1)).c3)) := by
                have := mean_near (s := (sumX (fun v => atX B f v y) (x - (a : Int)) (2 * a + 1)).c3) (r := (a : Int)) (by omega)
                rw [show meanI (sumX (fun v => atX B f v y) (x - (a : Int)) (2 * a + 1)).c3 (a : Int) = q.c3 by rw [HQ.out]; rfl, hP] at this
                exact this
              have HPE := hid hP
              clear hP
              go_wp2
              go_loopg [13, 14] (2 * a + 1) (fun gh v13 v14 wr => ∃ v, -(a : Int) ≤ v ∧ v ≤ (a : Int) + 1 ∧ gh = ((a : Int) + 1 - v).toNat ∧ v14 = .int .i64 v ∧ v13 = .int .i64 (sumX (fun v => atX B f v y) (x - (a : Int)) (v + (a : Int)).toNat).c3 ∧ Below W2.heap.size W2 wr)
              case atStart => exact ⟨-(a : Int), Int.le_refl _, by omega, by omega, rfl, by rw [show (-(a : Int) + (a : Int)).toNat = 0 by omega]; rfl, HS4.out⟩
              case round =>
                clear HS4
                obtain ⟨v, hv0, hv1, rfl, rfl, rfl, hB5⟩ := hrel
                have HS5 := hid hB5
                obtain ⟨s, hs⟩ : ∃ s, s = (sumX (fun v => atX B f v y) (x - (a : Int)) (v + (a : Int)).toNat).c3 := ⟨_, rfl⟩
                rw [← hs]
                by_cases hltv : v ≤ (a : Int)
                · obtain ⟨p, hp⟩ : ∃ p, p = atX B f (x + v) y := ⟨_, rfl⟩
                  have HPX : Hid (atX B f (x + v) y = p) := hp.symm
                  have hpb : byteX p := by rw [hp]; exact at_byte HU.out.2.2.1 _ _
                  obtain ⟨⟨c0, c1⟩, ⟨c2, c3⟩, ⟨c4, c5⟩, c6, c7⟩ := hpb
                  have HT : Hid (s + p.c3 = (sumX (fun v => atX B f v y) (x - (a : Int)) (v + 1 + (a : Int)).toNat).c3) := by
                    show s + p.c3 = _
                    rw [show (v + 1 + (a : Int)).toNat = (v + (a : Int)).toNat + 1 by omega, sumX, hs, hp]
                    show _ = _ + (atX B f (x - (a : Int) + ((v + (a : Int)).toNat : Nat)) y).c3
                    rw [show x - (a : Int) + (((v + (a : Int)).toNat : Nat) : Int) = x + v by omega]
                  have hsb : 0 ≤ s ∧ s ≤ 255 * 511 := by
                    have h1 := sum_up (h := fun v => atX B f v y) (fun u => at_byte HU.out.2.2.1 u y) (x - (a : Int)) (v + (a : Int)).toNat
                    rw [hs]
                    unfold upX at h1
                    omega
                  obtain ⟨sb0, sb1⟩ := hsb
                  have g0 : IntKind.i64.wrap p.c3 = p.c3 := by rw [IntKind.wrap_i64]; omega
                  have i3 := index3
                  have hLW := HLO.out.trans (hB5.mono HLO.out.size)
                  obtain ⟨b0, b1, b2, b3, b4, bf⟩ := HK2.out.b.below hB5
                  have HVb : Hid (Vx wr ao n m g off (img B f)) := HV.out.below hLW
                  clear hB5 hLW hp hs
                  go_wp2_with (go_at_call 14; with_reducible refine Calls.mono (refAt_any B ao n m g off f _ _ _ HU.out.2.2.2.1 (by omega) (by omega) (by omega) HVb.out) ?_; rintro e w6 ⟨rfl, hb6⟩; rw [HPX.out]; have HS6 := hid (Rc.via HS5.out hb6); clear hb6)
                  go_roundg ((a : Int) + 1 - (v + 1)).toNat
                  case measure => omega
                  case rel => exact ⟨v + 1, by omega, by omega, rfl, rfl, by rw [HT.out], HS6.out⟩
                · obtain rfl : v = (a : Int) + 1 := by omega
                  rw [show ((a : Int) + 1 + (a : Int)).toNat = 2 * a + 1 by omega] at hs
                  have hd := HD.out
                  rw [← hs] at hd
                  obtain ⟨hd0, hd1⟩ := hd
                  have hsb : 0 ≤ s ∧ s ≤ 255 * 511 := by
                    have h1 := sum_up (h := fun v => atX B f v y) (fun u => at_byte HU.out.2.2.1 u y) (x - (a : Int)) (2 * a + 1)
                    rw [hs]
                    unfold upX at h1
                    omega
                  obtain ⟨sb0, sb1⟩ := hsb
                  have hP := HPE.out
                  obtain ⟨t0, t1, t2, t3, tf⟩ := HPX2.out.below hB5
                  clear hB5 hs
                  go_wp2
                  go_roundg (4 - 4)
                  case measure => decide
                  case rel => exact ⟨4, by decide, rfl, rfl, HS5.out⟩
            · have HS4 := hid (Rc.via HB2.out hB4)
              clear hB4
              go_wp2
              go_roundg (D.x1 - (x + 1)).toNat
              case measure => omega
              case rel => exact ⟨x + 1, by omega, by omega, rfl, rfl, HS4.out⟩
        · clear hB
          go_wp2
          go_roundg (D.y1 - (y + 1)).toNat
          case measure => omega
          case rel => exact ⟨y + 1, by omega, by omega, rfl, rfl, HB.out⟩
    · go_wp2
      go_ret
      exact ⟨rfl, (HS0.out.2.2.below HB.out).low⟩

theorem own : ownKnob Try.prog.godebug = none := by kernel_rfl

set_option maxRecDepth 100000 in
theorem lifted (os : Os) (started : os.Started) (H : Type) (enc : TypeId × Value → H) :
    ReturnsInHanded {} Try.checked os 4 .any (Rows.blurMeansSpec.pre6 enc Try.prog Try.f4 Rows.blurMeansRow.domain false) (Rows.blurMeansSpec.post enc Try.prog Try.f4 false true false false) := by
  refine returnsInHanded_of_change (C := Try.checked) own started (by kernel_rfl) Try.func4
    (ChangeSpec.witness6 (enc := enc) (C := Try.checked) false ⟨#[], #[.agg #[.int .i64 0, .int .i64 0, .int .i64 0, .int .i64 0, .slice none 0 0], .agg #[.int .i64 0, .int .i64 0, .int .i64 0, .int .i64 0], .int .i64 0], []⟩ 8 (by kernel_rfl) (by kernel_rfl) (by kernel_rfl) (by kernel_rfl)) ?_
  intro W base args ds gs before hval0 hW hcnd _
  have hval : ∀ (j : Nat) t v, Try.f4.params[j]? = some t → args[j]? = some v → Value.okWide Try.prog W .any base t v := hval0
  have hW' := hW
  obtain ⟨p, q, hA0, hV, rfl, hfz, hnd⟩ := hW
  have hA : DataW.TrodAll enc Try.prog W 0 (fun _ => true) true Try.f4.params.toList args.toList ds p := hA0
  rw [Try.params4] at hA hval
  obtain ⟨v0, vs0, d0, ds0, p0, q0, hargs, rfl, rfl, h0, r0⟩ := trodAll_cons hA
  obtain ⟨v1, vs1, d1, ds1, p1, q1, rfl, rfl, rfl, h1, r1⟩ := trodAll_cons r0
  obtain ⟨v2, vs2, d2, ds2, p2, q2, rfl, rfl, rfl, h2, r2⟩ := trodAll_cons r1
  obtain ⟨rfl, rfl, rfl⟩ := trodAll_nil r2
  obtain rfl : args = #[v0, v1, v2] := by cases args; simp_all
  obtain ⟨rfl, rfl⟩ := trodVars_none hV
  obtain ⟨B, ao, n, c, g, off, l, rfl, hv0, hp0⟩ := open_buf (hval 0 26 v0 rfl rfl) h0
  obtain ⟨D, rfl⟩ := open_rect (hval 1 23 v1 rfl rfl) h1
  obtain ⟨rx, rfl, -, -, -⟩ := open_int Try.underlying3 (hval 2 3 v2 rfl rfl) h2
  clear hA0 hval0
  simp only [List.append_nil] at hW'
  have hlt : ∀ x ∈ p0 ++ (p1 ++ (p2)), x.block < W.heap.size := fun x hx => by simpa using hW'.lt x (by simpa using hx)
  refine (walk B ao n c g off l D rx W hv0 hp0).mono fun e W' ⟨he, hg⟩ => ?_
  subst he
  have t0 := Below.trod laidOut (by kernel_rfl) (of_decide_eq_true (by kernel_rfl)) h0 hg (fun x hx => hlt x (List.mem_append_left _ hx))
  have t1 := Below.trod laidOut (by kernel_rfl) (of_decide_eq_true (by kernel_rfl)) h1 hg (fun x hx => hlt x (List.mem_append_right _ (List.mem_append_left _ hx)))
  have t2 := Below.trod laidOut (by kernel_rfl) (of_decide_eq_true (by kernel_rfl)) h2 hg (fun x hx => hlt x (List.mem_append_right _ (List.mem_append_right _ (hx))))
  exact ⟨_, rfl, ⟨_, _, _, _, _, _, hW', (trodAll_cons_mk (shut_bool Try.underlying4 _) trodAll_mk0), (trodAll_cons_mk t0 (trodAll_cons_mk t1 (trodAll_cons_mk t2 trodAll_mk0))), rfl, hg.frame _, fun h => by cases h⟩⟩

theorem over : Rows.blurMeansRow.holds Try.pinned (OpenSpec.ofChange Rows.blurMeansSpec) :=
  OpenClaim.holds_of_wide 4 Try.f4 rfl rfl rfl rfl rfl rfl rfl ⟨rfl, rfl, rfl, rfl, rfl⟩ rfl rfl rfl rfl rfl (by kernel_rfl) Try.func4 (by kernel_rfl)
    (of_decide_eq_true (by kernel_rfl)) (by unfold Func.isWrapper; first | (rw [if_pos (by decide +kernel)]; kernel_rfl) | (rw [if_neg (by decide +kernel)]; exact ⟨rfl, rfl⟩))
    (fun os started H enc _ => lifted os started H enc)

theorem proved : Rows.BlurMeansSaid := over
#print axioms proved
end Go.Proofs.Ytbcgnnjkhgpkmaa.blurMeans
