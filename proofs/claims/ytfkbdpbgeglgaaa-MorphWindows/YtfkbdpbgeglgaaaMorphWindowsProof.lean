/- Each value is the greatest, the least, of those around it: none is beyond it, and one is it; no condition. -/
import Derived.Test.YtfkbdpbgeglgaaaRows
import Derived.WalkKit
import Derived.ProofKit
import Derived.OpenShut
import Derived.Test.YtfkbdpbgeglgaaaOpen
import Derived.Test.YtfkbdpbgeglgaaaKit
import Derived.Test.YtfkbdpbgeglgaaaGrown
import Derived.Test.YtfkbdpbgeglgaaaRBox
namespace Go.Proofs.Ytfkbdpbgeglgaaa.morphWindows
open Go.ChangeShapes Go.WideShapes Go.ChangeAt Go.RowKit Num
set_option linter.unusedVariables false
set_option linter.unusedSimpArgs false
/-- the two buffers that were made -/
structure Cl (W : World) (B D : R) (ao : Option Addr) (n m : Nat) (k10 k11 : Nat) (Z : R) (co : Option Addr) (cn cm cg coff : Nat) (G1 : Int → Int → X) (do5 : Option Addr) (dn dm dg doff : Nat) (G2 : Int → Int → X) (w : World) : Prop where
  x : Kx W B D ao n m w
  c : Has5 w k10 Z co cn cm
  d : Has5 w k11 Z do5 dn dm
  vc : Vx w co cn cm cg coff (img Z G1)
  vd : Vx w do5 dn dm dg doff (img Z G2)
theorem Cl.below {W : World} {B D : R} {ao : Option Addr} {n m : Nat} {k10 k11 : Nat} {Z : R} {co : Option Addr} {cn cm cg coff : Nat} {G1 : Int → Int → X} {do5 : Option Addr} {dn dm dg doff : Nat} {G2 : Int → Int → X} {w w' : World} (h : Cl W B D ao n m k10 k11 Z co cn cm cg coff G1 do5 dn dm dg doff G2 w) (hb : Below w.heap.size w w') : Cl W B D ao n m k10 k11 Z co cn cm cg coff G1 do5 dn dm dg doff G2 w' :=
  ⟨h.x.below hb, h.c.below hb, h.d.below hb, h.vc.below hb, h.vd.below hb⟩
/-- what is told while a window is gone through -/
structure Wn (U : Int → Int → Int) (x y : Int) (a b : Nat) (hi lo : Int) (u v : Int) (tp bt : Bool) : Prop where
  t : ∀ p q, x - (a : Int) ≤ p → p < x + (a : Int) + 1 → y - (b : Int) ≤ q → (q < v ∨ (q = v ∧ p < u)) → U p q = hi → tp = true
  b : ∀ p q, x - (a : Int) ≤ p → p < x + (a : Int) + 1 → y - (b : Int) ≤ q → (q < v ∨ (q = v ∧ p < u)) → U p q = lo → bt = true
theorem wn_first (U : Int → Int → Int) (x y : Int) (a b : Nat) (hi lo : Int) : Wn U x y a b hi lo (x - (a : Int)) (y - (b : Int)) false false := ⟨fun p q h1 h2 h3 h4 => by omega, fun p q h1 h2 h3 h4 => by omega⟩
theorem Wn.step {U : Int → Int → Int} {x y : Int} {a b : Nat} {hi lo u v : Int} {tp bt tp' bt' : Bool} (h : Wn U x y a b hi lo u v tp bt) (h1 : tp = true → tp' = true) (h2 : U u v = hi → tp' = true) (h3 : bt = true → bt' = true) (h4 : U u v = lo → bt' = true) : Wn U x y a b hi lo (u + 1) v tp' bt' := by
  refine ⟨fun p q a1 a2 a3 a4 a5 => ?_, fun p q a1 a2 a3 a4 a5 => ?_⟩
  · by_cases e : q = v ∧ p = u
    · rw [e.1, e.2] at a5; exact h2 a5
    · exact h1 (h.t p q a1 a2 a3 (by omega) a5)
  · by_cases e : q = v ∧ p = u
    · rw [e.1, e.2] at a5; exact h4 a5
    · exact h3 (h.b p q a1 a2 a3 (by omega) a5)
theorem Wn.row {U : Int → Int → Int} {x y : Int} {a b : Nat} {hi lo v : Int} {tp bt : Bool} (h : Wn U x y a b hi lo (x + (a : Int) + 1) v tp bt) : Wn U x y a b hi lo (x - (a : Int)) (v + 1) tp bt :=
  ⟨fun p q a1 a2 a3 a4 => h.t p q a1 a2 a3 (by omega), fun p q a1 a2 a3 a4 => h.b p q a1 a2 a3 (by omega)⟩
theorem Wn.last {U : Int → Int → Int} {x y : Int} {a b : Nat} {u : Int} {tp bt : Bool} (h : Wn U x y a b (mor1 false U a b x y) (mor1 true U a b x y) u (y + (b : Int) + 1) tp bt) : tp = true ∧ bt = true := by
  obtain ⟨⟨u1, v1, a1, a2, a3, a4, a5⟩, -⟩ := mor_of false U a b x y
  obtain ⟨⟨u2, v2, b1, b2, b3, b4, b5⟩, -⟩ := mor_of true U a b x y
  exact ⟨h.t u1 v1 a1 a2 a3 (.inl a4) a5, h.b u2 v2 b1 b2 b3 (.inl b4) b5⟩

set_option maxRecDepth 100000 in
set_option maxHeartbeats 4000000 in
theorem walk (B : R) (ao : Option Addr) (n m g off : Nat) (l : List X) (D : R) (rx ry : Int) (W : World) (h : Vx W ao n m g off l) (hp : ∀ p, p ∈ l → byteX p) :
    Calls Try.prog 4 #[.agg #[.int .i64 B.x0, .int .i64 B.y0, .int .i64 B.x1, .int .i64 B.y1, .slice ao n m], .agg #[.int .i64 D.x0, .int .i64 D.y0, .int .i64 D.x1, .int .i64 D.y1], .int .i64 rx, .int .i64 ry] W fun e w' => e = .returned (.bool true) ∧ Below W.heap.size W w' := by
  have hn := vx_small h
  have HX : Hid (Kx W B D ao n m ((W.alloc (.cells #[.int .i64 B.x0, .int .i64 B.y0, .int .i64 B.x1, .int .i64 B.y1, .slice ao n m] 26)).alloc (.cells #[.int .i64 D.x0, .int .i64 D.y0, .int .i64 D.x1, .int .i64 D.y1] 23))) := kx_new W B D ao n m
  obtain ⟨b0, b1, b2, b3, b4, bf⟩ := HX.out.b
  obtain ⟨r0, r1, r2, r3, rf⟩ := HX.out.d
  rcases hF : fineQ B n D rx ry with _ | _
  · have HR := hid hF
    clear hF h hp
    go_enter Try.func4, Try.ntmps4
    go_wp2_with (first | (go_at_call 9; with_reducible refine Calls.mono (awake_any _) ?_; rintro e wc ⟨rfl, hb⟩; replace HX := hid (HX.out.below hb); clear hb; clear b0 b1 b2 b3 b4 bf r0 r1 r2 r3 rf; obtain ⟨b0, b1, b2, b3, b4, bf⟩ := HX.out.b; obtain ⟨r0, r1, r2, r3, rf⟩ := HX.out.d) | (go_at_call 10; with_reducible refine Calls.mono (fine_any B ao n m D rx ry _ hn) ?_; rintro e wc ⟨rfl, hb⟩; rw [HR.out]; replace HX := hid (HX.out.below hb); clear hb; clear b0 b1 b2 b3 b4 bf r0 r1 r2 r3 rf; obtain ⟨b0, b1, b2, b3, b4, bf⟩ := HX.out.b; obtain ⟨r0, r1, r2, r3, rf⟩ := HX.out.d))
    go_ret
    exact ⟨rfl, HX.out.low⟩
  obtain ⟨a, b, hG⟩ := good8 hF
  have hU := bu_of h hp hG
  have hrx := hG.hrx
  have hry := hG.hry
  have HR := hid hF
  clear hF hp
  subst hrx
  subst hry
  obtain ⟨f, hf⟩ : ∃ f, f = unimg B l := ⟨_, rfl⟩
  have e1 := hU.im
  rw [← hf] at e1
  have HU : Hid (n ≤ 5000 ∧ bufB B n = true ∧ (∀ x y, byteX (f x y)) ∧ Ok B ∧ Half D ∧ area (grow D (a : Int) (b : Int) (a : Int) (b : Int)) ≤ 5000 ∧ a ≤ 255 ∧ b ≤ 255 ∧ area D ≤ 5000) := ⟨hU.n5, hU.buf, by rw [hf]; exact hU.byt, hU.ok, hU.half, hU.few, hU.a, hU.b, Int.le_trans (grow_area hU.half hU.a hU.b) hU.few⟩
  subst e1
  have HV := hid h
  have hZ5 := buf_new hU.half.ok HU.out.2.2.2.2.2.2.2.2
  obtain ⟨hHD, -⟩ := near_of HR.out
  unfold Near at hHD
  obtain ⟨⟨i0, i1⟩, ⟨i2, i3⟩, ⟨i4, i5⟩, i6, i7⟩ := hHD
  obtain ⟨Z, hZ⟩ : ∃ Z, Z = orN D := ⟨_, rfl⟩
  rw [← hZ] at hZ5
  have HZ := hid hZ.symm
  have HZO : Hid (Ok Z ∧ wid Z * hei Z ≤ 5000 ∧ ∀ x y, hasB D x y = true → hasB Z x y = true) := ⟨by rw [hZ]; exact ok_orN hU.half.ok, hZ5.2.1, fun x y h => by rw [hZ, has_orN]; exact h⟩
  have ha2 : a ≤ 255 := hU.a
  have hb2 : b ≤ 255 := hU.b
  clear hU hG h hf hZ hZ5
  go_enter Try.func4, Try.ntmps4
  go_wp2_with (first
    | (go_at_call 9; with_reducible refine Calls.mono (awake_any _) ?_; rintro e wc ⟨rfl, hb⟩; replace HX := hid (HX.out.below hb); clear hb; clear b0 b1 b2 b3 b4 bf r0 r1 r2 r3 rf; obtain ⟨b0, b1, b2, b3, b4, bf⟩ := HX.out.b; obtain ⟨r0, r1, r2, r3, rf⟩ := HX.out.d)
    | (go_at_call 10; with_reducible refine Calls.mono (fine_any B ao n m D (a : Int) (b : Int) _ hn) ?_; rintro e wc ⟨rfl, hb⟩; rw [HR.out]; replace HX := hid (HX.out.below hb); clear hb; clear b0 b1 b2 b3 b4 bf r0 r1 r2 r3 rf; obtain ⟨b0, b1, b2, b3, b4, bf⟩ := HX.out.b; obtain ⟨r0, r1, r2, r3, rf⟩ := HX.out.d)
    | (go_at_call 14; with_reducible refine Calls.mono (most_any B ao n m g off f D a b _ HU.out.2.1 HU.out.1 (HV.out.below HX.out.low) HU.out.2.2.1 HU.out.2.2.2.2.1 HU.out.2.2.2.2.2.1 HU.out.2.2.2.2.2.2.1 HU.out.2.2.2.2.2.2.2.1) ?_; rintro e w2 ⟨hr, hb2'⟩; rw [HZ.out] at hr; obtain ⟨co, cn, cm, cg, coff, rfl, hO, hg1, hg2, hln⟩ := retG hr; have HLC := hid hln; have hal := (Below.refl w2.heap.size w2).alloc (Nat.le_refl _) (.cells #[.int .i64 Z.x0, .int .i64 Z.y0, .int .i64 Z.x1, .int .i64 Z.y1, .slice co cn cm] 26); have HO2 := hid (hO.v.below hal); have H52 := hid (Has5.new (W := w2) (k := w2.heap.size) rfl Z.x0 Z.y0 Z.x1 Z.y1 co cn cm 26); have HX2 := hid ((HX.out.below hb2').below hal); clear hr hO hg1 hg2 hln hb2' hal b0 b1 b2 b3 b4 bf r0 r1 r2 r3 rf; obtain ⟨b0, b1, b2, b3, b4, bf⟩ := HX2.out.b; obtain ⟨r0, r1, r2, r3, rf⟩ := HX2.out.d)
    | (go_at_call 12; with_reducible refine Calls.mono (least_any B ao n m g off f D a b _ HU.out.2.1 HU.out.1 (HV.out.below HX2.out.low) HU.out.2.2.1 HU.out.2.2.2.2.1 HU.out.2.2.2.2.2.1 HU.out.2.2.2.2.2.2.1 HU.out.2.2.2.2.2.2.2.1) ?_; rintro e w3 ⟨hr, hb3⟩; rw [HZ.out] at hr; obtain ⟨do5, dn, dm, dg, doff, rfl, hO, hg1, hg2, hln⟩ := retG hr; have hne : cn = dn := (by have := HLC.out; rw [img_len] at this hln; omega); subst hne; have hal3 := (Below.refl w3.heap.size w3).alloc (Nat.le_refl _) (.cells #[.int .i64 Z.x0, .int .i64 Z.y0, .int .i64 Z.x1, .int .i64 Z.y1, .slice do5 cn dm] 26); have HB3 := hid (Rc.via hb3 hal3); have HO3 := hid (hO.v.below hal3); clear hr hO hg1 hg2 hln hb3 hal3 b0 b1 b2 b3 b4 bf r0 r1 r2 r3 rf; obtain ⟨r0, r1, r2, r3, rf⟩ := HX2.out.d.below HB3.out))
  have HT0 : Hid (Cl W B D ao n m w2.heap.size w3.heap.size Z co cn cm cg coff (morX false (atX B f) a b) do5 cn dm dg doff (morX true (atX B f) a b) (w3.alloc (.cells #[.int .i64 Z.x0, .int .i64 Z.y0, .int .i64 Z.x1, .int .i64 Z.y1, .slice do5 cn dm] 26))) := ⟨HX2.out.below HB3.out, H52.out.below HB3.out, Has5.new rfl _ _ _ _ _ _ _ _, HO2.out.below HB3.out, HO3.out⟩
  have hc6 : cn ≤ 1000000 := by have := HLC.out; rw [img_len] at this; have := HZO.out.2.1; omega
  clear HX HX2 HO2 HO3 H52 HB3 r0 r1 r2 r3 rf
  generalize w3.alloc (.cells #[.int .i64 Z.x0, .int .i64 Z.y0, .int .i64 Z.x1, .int .i64 Z.y1, .slice do5 cn dm] 26) = W8 at HT0 ⊢
  generalize w3.heap.size = k10 at HT0 ⊢
  generalize w2.heap.size = k9 at HT0 ⊢
  go_loopg [11] (D.y1 - D.y0).toNat (fun gh v11 wr => ∃ y, D.y0 ≤ y ∧ (y ≤ D.y1 ∨ y = D.y0) ∧ gh = (D.y1 - y).toNat ∧ v11 = .int .i64 y ∧ Cl W B D ao n m k9 k10 Z co cn cm cg coff (morX false (atX B f) a b) do5 cn dm dg doff (morX true (atX B f) a b) wr)
  case atStart => exact ⟨D.y0, Int.le_refl _, .inr rfl, rfl, rfl, HT0.out⟩
  case round =>
    clear HT0
    obtain ⟨y, hy0, hy1, rfl, rfl, hT⟩ := hrel
    have HT := hid hT
    obtain ⟨r0, r1, r2, r3, rf⟩ := hT.x.d
    clear hT
    by_cases hlt : y < D.y1
    · go_wp2
      clear r0 r1 r2 r3 rf
      go_loopg [12] (D.x1 - D.x0).toNat (fun gh v12 wr => ∃ x, D.x0 ≤ x ∧ (x ≤ D.x1 ∨ x = D.x0) ∧ gh = (D.x1 - x).toNat ∧ v12 = .int .i64 x ∧ Cl W B D ao n m k9 k10 Z co cn cm cg coff (morX false (atX B f) a b) do5 cn dm dg doff (morX true (atX B f) a b) wr)
      case atStart => exact ⟨D.x0, Int.le_refl _, .inr rfl, rfl, rfl, HT.out⟩
      case round =>
        clear HT
        obtain ⟨x, hx0, hx1, rfl, rfl, hT⟩ := hrel
        have HT := hid hT
        obtain ⟨r0, r1, r2, r3, rf⟩ := hT.x.d
        clear hT
        by_cases hltx : x < D.x1
        · have HIN : Hid (hasB Z x y = true) := HZO.out.2.2 x y (decide_eq_true (by omega))
          go_wp2
          clear r0 r1 r2 r3 rf
          go_loopg [13] 4 (fun gh v13 wr => ∃ i : Nat, i ≤ 4 ∧ gh = 4 - i ∧ v13 = .int .i64 (i : Int) ∧ Cl W B D ao n m k9 k10 Z co cn cm cg coff (morX false (atX B f) a b) do5 cn dm dg doff (morX true (atX B f) a b) wr)
          case atStart => exact ⟨0, Nat.zero_le _, rfl, rfl, HT.out⟩
          case round =>
            clear HT
            obtain ⟨i, hi4, rfl, rfl, hT⟩ := hrel
            have HT := hid hT
            by_cases hil : i < 4
            · have hiz : (i : Int) < 4 := by omega
              have hix := fun q w => index_n q hil w
              obtain ⟨U, hU⟩ : ∃ U : Int → Int → Int, U = fun u v => chn i (atX B f u v) := ⟨_, rfl⟩
              have HUU : Hid (∀ u v, chn i (atX B f u v) = U u v) := fun u v => by rw [hU]
              obtain ⟨hi, hhi⟩ : ∃ hi, hi = mor1 false U a b x y := ⟨_, rfl⟩
              obtain ⟨lo, hlo⟩ : ∃ lo, lo = mor1 true U a b x y := ⟨_, rfl⟩
              have HQ : Hid (chn i (atX Z (morX false (atX B f) a b) x y) = hi ∧ chn i (atX Z (morX true (atX B f) a b) x y) = lo) := by
                have hz := HIN.out
                refine ⟨?_, ?_⟩
                · unfold atX
                  rw [if_pos hz, hhi, hU]
                  exact (chn_mor false (atX B f) a b x y hil).symm
                · unfold atX
                  rw [if_pos hz, hlo, hU]
                  exact (chn_mor true (atX B f) a b x y hil).symm
              have HBD : Hid (∀ u v, x - (a : Int) ≤ u → u < x + (a : Int) + 1 → y - (b : Int) ≤ v → v < y + (b : Int) + 1 → U u v ≤ hi ∧ lo ≤ U u v) := by
                intro u v h1 h2 h3 h4
                rw [hhi, hlo]
                exact ⟨(mor_of false U a b x y).2 u v h1 h2 h3 h4, (mor_of true U a b x y).2 u v h1 h2 h3 h4⟩
              have HLA : Hid (∀ u tp bt, Wn U x y a b hi lo u (y + (b : Int) + 1) tp bt → tp = true ∧ bt = true) := by
                intro u tp bt h
                rw [hhi, hlo] at h
                exact h.last
              obtain ⟨c0, c1, c2, c3, c4, cf⟩ := hT.c
              clear hT hU hhi hlo
              go_wp2_with (first
                | (go_at_call 15; with_reducible refine Calls.mono (refAt_any Z co cn cm cg coff (morX false (atX B f) a b) x y _ HZO.out.1 hc6 (by omega) (by omega) HT.out.vc) ?_; rintro e w4 ⟨rfl, hb4⟩; have HT4 := hid (HT.out.below hb4); clear hb4 c0 c1 c2 c3 c4 cf; have hq1 := HQ.out.1; obtain ⟨d0, d1, d2, d3, d4, df⟩ := HT4.out.d)
                | (go_at_call 15; with_reducible refine Calls.mono (refAt_any Z do5 cn dm dg doff (morX true (atX B f) a b) x y _ HZO.out.1 hc6 (by omega) (by omega) HT4.out.vd) ?_; rintro e w5 ⟨rfl, hb5⟩; have HT5 := hid (HT4.out.below hb5); clear hb5 d0 d1 d2 d3 d4 df; have hq2 := HQ.out.2))
              go_loopg [16, 17, 18] (2 * b + 1) (fun gh v16 v17 v18 wr => ∃ v tp bt, y - (b : Int) ≤ v ∧ v ≤ y + (b : Int) + 1 ∧ gh = (y + (b : Int) + 1 - v).toNat ∧ v16 = .bool tp ∧ v17 = .bool bt ∧ v18 = .int .i64 v ∧ Wn U x y a b hi lo (x - (a : Int)) v tp bt ∧ Cl W B D ao n m k9 k10 Z co cn cm cg coff (morX false (atX B f) a b) do5 cn dm dg doff (morX true (atX B f) a b) wr)
              case atStart => exact ⟨y - (b : Int), false, false, Int.le_refl _, by omega, by omega, rfl, rfl, rfl, wn_first U x y a b hi lo, HT5.out⟩
              case round =>
                clear HT HT4 HT5
                obtain ⟨v, tp, bt, hv0, hv1, rfl, rfl, rfl, rfl, hW, hT⟩ := hrel
                have HT := hid hT
                have HW := hid hW
                clear hT hW
                by_cases hltv : v ≤ y + (b : Int)
                · go_wp2
                  go_loopg [16, 17, 19] (2 * a + 1) (fun gh v16 v17 v19 wr => ∃ u tp bt, x - (a : Int) ≤ u ∧ u ≤ x + (a : Int) + 1 ∧ gh = (x + (a : Int) + 1 - u).toNat ∧ v16 = .bool tp ∧ v17 = .bool bt ∧ v19 = .int .i64 u ∧ Wn U x y a b hi lo u v tp bt ∧ Cl W B D ao n m k9 k10 Z co cn cm cg coff (morX false (atX B f) a b) do5 cn dm dg doff (morX true (atX B f) a b) wr)
                  case atStart => exact ⟨x - (a : Int), tp, bt, Int.le_refl _, by omega, by omega, rfl, rfl, rfl, HW.out, HT.out⟩
                  case round =>
                    clear HT HW tp bt
                    obtain ⟨u, tp, bt, hu0, hu1, rfl, rfl, rfl, rfl, hW, hT⟩ := hrel
                    have HT := hid hT
                    have HW := hid hW
                    by_cases hltu : u ≤ x + (a : Int)
                    · obtain ⟨b0, b1, b2, b3, b4, bf⟩ := hT.x.b
                      obtain ⟨c, hc⟩ : ∃ c, U u v = c := ⟨_, rfl⟩
                      have HCC := hid hc
                      have hbd := HBD.out u v hu0 (by omega) hv0 (by omega)
                      rw [hc] at hbd
                      have hn1 : decide (hi < c) = false := decide_eq_false (by omega)
                      have hn2 : decide (c < lo) = false := decide_eq_false (by omega)
                      clear hc hT hW hbd
                      cases tp with
                      | false =>
                        cases bt with
                        | false =>
                          go_wp2_with (go_at_call 15; with_reducible refine Calls.mono (refAt_any B ao n m g off f u v _ HU.out.2.2.2.1 (by have := HU.out.1; omega) (by omega) (by omega) (HV.out.below HT.out.x.low)) ?_; rintro e w8 ⟨rfl, hb8⟩; have HT8 := hid (HT.out.below hb8); clear hb8; have hcu := (HUU.out u v).trans HCC.out)
                          go_roundg (x + (a : Int) + 1 - (u + 1)).toNat
                          case measure => omega
                          case rel => exact ⟨u + 1, (c == hi), (c == lo), by omega, by omega, rfl, rfl, rfl, rfl, HW.out.step (fun h => by cases h) (fun h => by rw [HCC.out] at h; rw [h]; exact beq_self_eq_true _) (fun h => by cases h) (fun h => by rw [HCC.out] at h; rw [h]; exact beq_self_eq_true _), HT8.out⟩
                        | true =>
                          go_wp2_with (go_at_call 15; with_reducible refine Calls.mono (refAt_any B ao n m g off f u v _ HU.out.2.2.2.1 (by have := HU.out.1; omega) (by omega) (by omega) (HV.out.below HT.out.x.low)) ?_; rintro e w8 ⟨rfl, hb8⟩; have HT8 := hid (HT.out.below hb8); clear hb8; have hcu := (HUU.out u v).trans HCC.out)
                          go_roundg (x + (a : Int) + 1 - (u + 1)).toNat
                          case measure => omega
                          case rel => exact ⟨u + 1, (c == hi), true, by omega, by omega, rfl, rfl, rfl, rfl, HW.out.step (fun h => by cases h) (fun h => by rw [HCC.out] at h; rw [h]; exact beq_self_eq_true _) (fun _ => rfl) (fun _ => rfl), HT8.out⟩
                      | true =>
                        cases bt with
                        | false =>
                          go_wp2_with (go_at_call 15; with_reducible refine Calls.mono (refAt_any B ao n m g off f u v _ HU.out.2.2.2.1 (by have := HU.out.1; omega) (by omega) (by omega) (HV.out.below HT.out.x.low)) ?_; rintro e w8 ⟨rfl, hb8⟩; have HT8 := hid (HT.out.below hb8); clear hb8; have hcu := (HUU.out u v).trans HCC.out)
                          go_roundg (x + (a : Int) + 1 - (u + 1)).toNat
                          case measure => omega
                          case rel => exact ⟨u + 1, true, (c == lo), by omega, by omega, rfl, rfl, rfl, rfl, HW.out.step (fun _ => rfl) (fun _ => rfl) (fun h => by cases h) (fun h => by rw [HCC.out] at h; rw [h]; exact beq_self_eq_true _), HT8.out⟩
                        | true =>
                          go_wp2_with (go_at_call 15; with_reducible refine Calls.mono (refAt_any B ao n m g off f u v _ HU.out.2.2.2.1 (by have := HU.out.1; omega) (by omega) (by omega) (HV.out.below HT.out.x.low)) ?_; rintro e w8 ⟨rfl, hb8⟩; have HT8 := hid (HT.out.below hb8); clear hb8; have hcu := (HUU.out u v).trans HCC.out)
                          go_roundg (x + (a : Int) + 1 - (u + 1)).toNat
                          case measure => omega
                          case rel => exact ⟨u + 1, true, true, by omega, by omega, rfl, rfl, rfl, rfl, HW.out.step (fun _ => rfl) (fun _ => rfl) (fun _ => rfl) (fun _ => rfl), HT8.out⟩
                    · obtain rfl : u = x + (a : Int) + 1 := by omega
                      clear hT hW
                      go_wp2
                      go_roundg (y + (b : Int) + 1 - (v + 1)).toNat
                      case measure => omega
                      case rel => exact ⟨v + 1, tp, bt, by omega, by omega, rfl, rfl, rfl, rfl, HW.out.row, HT.out⟩
                · obtain rfl : v = y + (b : Int) + 1 := by omega
                  obtain ⟨rfl, rfl⟩ := HLA.out _ _ _ HW.out
                  go_wp2
                  go_roundg (4 - (i + 1))
                  case measure => omega
                  case rel => exact ⟨i + 1, by omega, rfl, by simp, HT.out⟩
            · obtain rfl : i = 4 := by omega
              clear hT
              go_wp2
              go_roundg (D.x1 - (x + 1)).toNat
              case measure => omega
              case rel => exact ⟨x + 1, by omega, by omega, rfl, rfl, HT.out⟩
        · go_wp2
          go_roundg (D.y1 - (y + 1)).toNat
          case measure => omega
          case rel => exact ⟨y + 1, by omega, by omega, rfl, rfl, HT.out⟩
    · go_wp2
      go_ret
      exact ⟨rfl, HT.out.x.low⟩

theorem own : ownKnob Try.prog.godebug = none := by kernel_rfl

set_option maxRecDepth 100000 in
theorem lifted (os : Os) (started : os.Started) (H : Type) (enc : TypeId × Value → H) :
    ReturnsInHanded {} Try.checked os 4 .any (Rows.morphWindowsSpec.pre6 enc Try.prog Try.f4 Rows.morphWindowsRow.domain false) (Rows.morphWindowsSpec.post enc Try.prog Try.f4 false true false false) := by
  refine returnsInHanded_of_change (C := Try.checked) own started (by kernel_rfl) Try.func4
    (ChangeSpec.witness6 (enc := enc) (C := Try.checked) false ⟨#[], #[.agg #[.int .i64 0, .int .i64 0, .int .i64 0, .int .i64 0, .slice none 0 0], .agg #[.int .i64 0, .int .i64 0, .int .i64 0, .int .i64 0], .int .i64 0, .int .i64 0], []⟩ 8 (by kernel_rfl) (by kernel_rfl) (by kernel_rfl) (by kernel_rfl)) ?_
  intro W base args ds gs before hval0 hW hcnd _
  have hval : ∀ (j : Nat) t v, Try.f4.params[j]? = some t → args[j]? = some v → Value.okWide Try.prog W .any base t v := hval0
  have hW' := hW
  obtain ⟨p, q, hA0, hV, rfl, hfz, hnd⟩ := hW
  have hA : DataW.TrodAll enc Try.prog W 0 (fun _ => true) true Try.f4.params.toList args.toList ds p := hA0
  rw [Try.params4] at hA hval
  obtain ⟨v0, vs0, d0, ds0, p0, q0, hargs, rfl, rfl, h0, r0⟩ := trodAll_cons hA
  obtain ⟨v1, vs1, d1, ds1, p1, q1, rfl, rfl, rfl, h1, r1⟩ := trodAll_cons r0
  obtain ⟨v2, vs2, d2, ds2, p2, q2, rfl, rfl, rfl, h2, r2⟩ := trodAll_cons r1
  obtain ⟨v3, vs3, d3, ds3, p3, q3, rfl, rfl, rfl, h3, r3⟩ := trodAll_cons r2
  obtain ⟨rfl, rfl, rfl⟩ := trodAll_nil r3
  obtain rfl : args = #[v0, v1, v2, v3] := by cases args; simp_all
  obtain ⟨rfl, rfl⟩ := trodVars_none hV
  obtain ⟨B, ao, n, c, g, off, l, rfl, hv0, hp0⟩ := open_buf (hval 0 26 v0 rfl rfl) h0
  obtain ⟨D, rfl⟩ := open_rect (hval 1 23 v1 rfl rfl) h1
  obtain ⟨rx, rfl, -, -, -⟩ := open_int Try.underlying3 (hval 2 3 v2 rfl rfl) h2
  obtain ⟨ry, rfl, -, -, -⟩ := open_int Try.underlying3 (hval 3 3 v3 rfl rfl) h3
  clear hA0 hval0
  simp only [List.append_nil] at hW'
  have hlt : ∀ x ∈ p0 ++ (p1 ++ (p2 ++ (p3))), x.block < W.heap.size := fun x hx => by simpa using hW'.lt x (by simpa using hx)
  refine (walk B ao n c g off l D rx ry W hv0 hp0).mono fun e W' ⟨he, hg⟩ => ?_
  subst he
  have t0 := Below.trod laidOut (by kernel_rfl) (of_decide_eq_true (by kernel_rfl)) h0 hg (fun x hx => hlt x (List.mem_append_left _ hx))
  have t1 := Below.trod laidOut (by kernel_rfl) (of_decide_eq_true (by kernel_rfl)) h1 hg (fun x hx => hlt x (List.mem_append_right _ (List.mem_append_left _ hx)))
  have t2 := Below.trod laidOut (by kernel_rfl) (of_decide_eq_true (by kernel_rfl)) h2 hg (fun x hx => hlt x (List.mem_append_right _ (List.mem_append_right _ (List.mem_append_left _ hx))))
  have t3 := Below.trod laidOut (by kernel_rfl) (of_decide_eq_true (by kernel_rfl)) h3 hg (fun x hx => hlt x (List.mem_append_right _ (List.mem_append_right _ (List.mem_append_right _ (hx)))))
  exact ⟨_, rfl, ⟨_, _, _, _, _, _, hW', (trodAll_cons_mk (shut_bool Try.underlying4 _) trodAll_mk0), (trodAll_cons_mk t0 (trodAll_cons_mk t1 (trodAll_cons_mk t2 (trodAll_cons_mk t3 trodAll_mk0)))), rfl, hg.frame _, fun h => by cases h⟩⟩

theorem over : Rows.morphWindowsRow.holds Try.pinned (OpenSpec.ofChange Rows.morphWindowsSpec) :=
  OpenClaim.holds_of_wide 4 Try.f4 rfl rfl rfl rfl rfl rfl rfl ⟨rfl, rfl, rfl, rfl, rfl⟩ rfl rfl rfl rfl rfl (by kernel_rfl) Try.func4 (by kernel_rfl)
    (of_decide_eq_true (by kernel_rfl)) (by unfold Func.isWrapper; first | (rw [if_pos (by decide +kernel)]; kernel_rfl) | (rw [if_neg (by decide +kernel)]; exact ⟨rfl, rfl⟩))
    (fun os started H enc _ => lifted os started H enc)

theorem proved : Rows.MorphWindowsSaid := over
#print axioms proved
end Go.Proofs.Ytfkbdpbgeglgaaa.morphWindows
