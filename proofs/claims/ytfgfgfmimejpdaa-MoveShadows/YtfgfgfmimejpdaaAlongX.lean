/- The document's means along rows and along columns: contracts. -/
import Derived.Test.YtfgfgfmimejpdaaNear
import Derived.Test.YtfgfgfmimejpdaaAtB
import Derived.Deep.LoopGhost
import Derived.Deep.Light
namespace Go.Proofs.Ytfgfgfmimejpdaa
open Num Go.RowKit
set_option linter.unusedVariables false
set_option linter.unusedSimpArgs false

section
variable {w : World} {k : Nat} {v0 v1 v2 v3 : Value}
theorem h4s0 (h : Rc.Has4 w k v0 v1 v2 v3) (u : Value) : Rc.Has4 (w.setCell ⟨k, 0, none⟩ u) k u v1 v2 v3 :=
  ⟨World.cell?_setCell_same _ _ _ h.c0, by rw [World.cell?_setCell_other _ _ _ _ (by simp)]; exact h.c1, by rw [World.cell?_setCell_other _ _ _ _ (by simp)]; exact h.c2, by rw [World.cell?_setCell_other _ _ _ _ (by simp)]; exact h.c3, fun o => by rw [World.frozen?_setCell]; exact h.fz o⟩
theorem h4s1 (h : Rc.Has4 w k v0 v1 v2 v3) (u : Value) : Rc.Has4 (w.setCell ⟨k, 1, none⟩ u) k v0 u v2 v3 :=
  ⟨by rw [World.cell?_setCell_other _ _ _ _ (by simp)]; exact h.c0, World.cell?_setCell_same _ _ _ h.c1, by rw [World.cell?_setCell_other _ _ _ _ (by simp)]; exact h.c2, by rw [World.cell?_setCell_other _ _ _ _ (by simp)]; exact h.c3, fun o => by rw [World.frozen?_setCell]; exact h.fz o⟩
theorem h4s2 (h : Rc.Has4 w k v0 v1 v2 v3) (u : Value) : Rc.Has4 (w.setCell ⟨k, 2, none⟩ u) k v0 v1 u v3 :=
  ⟨by rw [World.cell?_setCell_other _ _ _ _ (by simp)]; exact h.c0, by rw [World.cell?_setCell_other _ _ _ _ (by simp)]; exact h.c1, World.cell?_setCell_same _ _ _ h.c2, by rw [World.cell?_setCell_other _ _ _ _ (by simp)]; exact h.c3, fun o => by rw [World.frozen?_setCell]; exact h.fz o⟩
theorem h4s3 (h : Rc.Has4 w k v0 v1 v2 v3) (u : Value) : Rc.Has4 (w.setCell ⟨k, 3, none⟩ u) k v0 v1 v2 u :=
  ⟨by rw [World.cell?_setCell_other _ _ _ _ (by simp)]; exact h.c0, by rw [World.cell?_setCell_other _ _ _ _ (by simp)]; exact h.c1, by rw [World.cell?_setCell_other _ _ _ _ (by simp)]; exact h.c2, World.cell?_setCell_same _ _ _ h.c3, fun o => by rw [World.frozen?_setCell]; exact h.fz o⟩
end
/-- four sums, as ints -/
abbrev I4 (w : World) (k : Nat) (s : X) : Prop := Rc.Has4 w k (.int .i64 s.c0) (.int .i64 s.c1) (.int .i64 s.c2) (.int .i64 s.c3)
/-- while one pixel's sums are made -/
structure As (W0 : World) (ko : Nat) (D : R) (l : List X) (oo : Option Addr) (on om og ooff ks : Nat) (s : X) (w : World) : Prop where
  g : Gs W0 ko D l oo on om og ooff w
  u : I4 w ks s
  k : ko < ks
  ne : 0 < om → og ≠ ks
section
variable {W0 : World} {ko : Nat} {D : R} {l : List X} {oo : Option Addr} {on om og ooff ks : Nat} {s : X} {w w' : World}
theorem As.below (h : As W0 ko D l oo on om og ooff ks s w) (hb : Below w.heap.size w w') : As W0 ko D l oo on om og ooff ks s w' := ⟨h.g.below hb, h.u.below hb, h.k, h.ne⟩
theorem As.to (h : As W0 ko D l oo on om og ooff ks s w) (hb : But ks w w') {s' : X} (hu : I4 w' ks s') : As W0 ko D l oo on om og ooff ks s' w' := ⟨h.g.but hb h.k h.ne, hu, h.k, h.ne⟩
end

set_option maxRecDepth 100000 in
set_option maxHeartbeats 8000000 in
theorem alongX_any (B : R) (ao : Option Addr) (n m g off : Nat) (f : Int → Int → X) (D : R) (r : Nat) (w : World) (hBo : Ok B) (hn : n ≤ 5000) (hV : Vx w ao n m g off (img B f)) (hb : ∀ x y, byteX (f x y)) (hD : Ok D) (ha : area D ≤ 5000) (hr : r ≤ 255) :
    Calls Try.prog 78 #[.agg #[.int .i64 B.x0, .int .i64 B.y0, .int .i64 B.x1, .int .i64 B.y1, .slice ao n m], .agg #[.int .i64 D.x0, .int .i64 D.y0, .int .i64 D.x1, .int .i64 D.y1], .int .i64 (r : Int), .int .i64 1, .int .i64 0] w fun e w' => RetB w.heap.size w' e (orN D) (img (orN D) (rowG (atX B f) r)) ∧ Below w.heap.size w w' := by
  have HW : Hid (Has5 ((((w.alloc (.cells #[.int .i64 B.x0, .int .i64 B.y0, .int .i64 B.x1, .int .i64 B.y1, .slice ao n m] 26)).alloc (.cells #[.int .i64 D.x0, .int .i64 D.y0, .int .i64 D.x1, .int .i64 D.y1] 23)).alloc (.cells #[.int .i64 0, .int .i64 0, .int .i64 0, .int .i64 0, .slice none 0 0] 26)).alloc (.cells #[.int .i64 0, .int .i64 0, .int .i64 0, .int .i64 0, .slice none 0 0] 26)) w.heap.size B ao n m ∧ Rc.Has4 ((((w.alloc (.cells #[.int .i64 B.x0, .int .i64 B.y0, .int .i64 B.x1, .int .i64 B.y1, .slice ao n m] 26)).alloc (.cells #[.int .i64 D.x0, .int .i64 D.y0, .int .i64 D.x1, .int .i64 D.y1] 23)).alloc (.cells #[.int .i64 0, .int .i64 0, .int .i64 0, .int .i64 0, .slice none 0 0] 26)).alloc (.cells #[.int .i64 0, .int .i64 0, .int .i64 0, .int .i64 0, .slice none 0 0] 26)) (w.heap.size + 1) (.int .i64 D.x0) (.int .i64 D.y0) (.int .i64 D.x1) (.int .i64 D.y1) ∧ Has5 ((((w.alloc (.cells #[.int .i64 B.x0, .int .i64 B.y0, .int .i64 B.x1, .int .i64 B.y1, .slice ao n m] 26)).alloc (.cells #[.int .i64 D.x0, .int .i64 D.y0, .int .i64 D.x1, .int .i64 D.y1] 23)).alloc (.cells #[.int .i64 0, .int .i64 0, .int .i64 0, .int .i64 0, .slice none 0 0] 26)).alloc (.cells #[.int .i64 0, .int .i64 0, .int .i64 0, .int .i64 0, .slice none 0 0] 26)) (w.heap.size + 1 + 1) ⟨0, 0, 0, 0⟩ none 0 0 ∧ Has5 ((((w.alloc (.cells #[.int .i64 B.x0, .int .i64 B.y0, .int .i64 B.x1, .int .i64 B.y1, .slice ao n m] 26)).alloc (.cells #[.int .i64 D.x0, .int .i64 D.y0, .int .i64 D.x1, .int .i64 D.y1] 23)).alloc (.cells #[.int .i64 0, .int .i64 0, .int .i64 0, .int .i64 0, .slice none 0 0] 26)).alloc (.cells #[.int .i64 0, .int .i64 0, .int .i64 0, .int .i64 0, .slice none 0 0] 26)) (w.heap.size + 1 + 1 + 1) ⟨0, 0, 0, 0⟩ none 0 0 ∧ Below w.heap.size w ((((w.alloc (.cells #[.int .i64 B.x0, .int .i64 B.y0, .int .i64 B.x1, .int .i64 B.y1, .slice ao n m] 26)).alloc (.cells #[.int .i64 D.x0, .int .i64 D.y0, .int .i64 D.x1, .int .i64 D.y1] 23)).alloc (.cells #[.int .i64 0, .int .i64 0, .int .i64 0, .int .i64 0, .slice none 0 0] 26)).alloc (.cells #[.int .i64 0, .int .i64 0, .int .i64 0, .int .i64 0, .slice none 0 0] 26))) :=
    ⟨(((Has5.new rfl _ _ _ _ _ _ _ _).alloc _).alloc _).alloc _, ((Rc.Has4.new (by simp) _ _ _ _ _).alloc _).alloc _, (Has5.new (by simp) _ _ _ _ _ _ _ _).alloc _, Has5.new (by simp) _ _ _ _ _ _ _ _, ((((Below.refl _ _).alloc (Nat.le_refl _) _).alloc (by simp) _).alloc (by simp; omega) _).alloc (by simp; omega) _⟩
  have HH := hid (And.intro hV (And.intro hBo hb))
  obtain ⟨G, hG⟩ : ∃ G, G = (rowG (atX B f) r) := ⟨_, rfl⟩
  rw [← hG]
  have HG := hid hG
  obtain ⟨d0, d1, d2, d3, df⟩ := HW.out.2.1
  rcases he : empB D with _ | _
  · obtain ⟨x01, y01⟩ := of_some he
    obtain ⟨-, s5, -⟩ := size_of hD he ha
    rw [orN_no he]
    have HE : Hid (empB ⟨D.x0, D.y0, D.x1, D.y1⟩ = false) := he
    obtain ⟨⟨i0, i1⟩, ⟨i2, i3⟩, ⟨i4, i5⟩, i6, i7⟩ := hD
    clear hV hBo hb ha he hG
    go_enter Try.func78, Try.ntmps78
    go_wp2_with (go_at_call 15; with_reducible refine Calls.mono (Rc.refEmpty_any D.x0 D.y0 D.x1 D.y1 _) ?_; rintro e w1 ⟨rfl, hb1⟩; rw [HE.out]; have HW1 := hid (And.intro (HW.out.1.below hb1) (And.intro (HW.out.2.1.below hb1) (And.intro (HW.out.2.2.1.below hb1) (And.intro (HW.out.2.2.2.1.below hb1) (Rc.via HW.out.2.2.2.2 hb1))))); clear hb1 d0 d1 d2 d3 df; obtain ⟨d0, d1, d2, d3, df⟩ := HW1.out.2.1; obtain ⟨o0, o1, o2, o3, o4, of4⟩ := HW1.out.2.2.2.1)
    have hbs := but_set4 w1 (w.heap.size + 1 + 1 + 1) (.int .i64 D.x0) (.int .i64 D.y0) (.int .i64 D.x1) (.int .i64 D.y1)
    have HX : Hid (Has5 ((((w1.setCell ⟨w.heap.size + 1 + 1 + 1, 0, none⟩ (.int .i64 D.x0)).setCell ⟨w.heap.size + 1 + 1 + 1, 1, none⟩ (.int .i64 D.y0)).setCell ⟨w.heap.size + 1 + 1 + 1, 2, none⟩ (.int .i64 D.x1)).setCell ⟨w.heap.size + 1 + 1 + 1, 3, none⟩ (.int .i64 D.y1)) w.heap.size B ao n m ∧ Rc.Has4 ((((w1.setCell ⟨w.heap.size + 1 + 1 + 1, 0, none⟩ (.int .i64 D.x0)).setCell ⟨w.heap.size + 1 + 1 + 1, 1, none⟩ (.int .i64 D.y0)).setCell ⟨w.heap.size + 1 + 1 + 1, 2, none⟩ (.int .i64 D.x1)).setCell ⟨w.heap.size + 1 + 1 + 1, 3, none⟩ (.int .i64 D.y1)) (w.heap.size + 1) (.int .i64 D.x0) (.int .i64 D.y0) (.int .i64 D.x1) (.int .i64 D.y1) ∧ Has5 ((((w1.setCell ⟨w.heap.size + 1 + 1 + 1, 0, none⟩ (.int .i64 D.x0)).setCell ⟨w.heap.size + 1 + 1 + 1, 1, none⟩ (.int .i64 D.y0)).setCell ⟨w.heap.size + 1 + 1 + 1, 2, none⟩ (.int .i64 D.x1)).setCell ⟨w.heap.size + 1 + 1 + 1, 3, none⟩ (.int .i64 D.y1)) (w.heap.size + 1 + 1) ⟨0, 0, 0, 0⟩ none 0 0 ∧ Below w.heap.size w ((((w1.setCell ⟨w.heap.size + 1 + 1 + 1, 0, none⟩ (.int .i64 D.x0)).setCell ⟨w.heap.size + 1 + 1 + 1, 1, none⟩ (.int .i64 D.y0)).setCell ⟨w.heap.size + 1 + 1 + 1, 2, none⟩ (.int .i64 D.x1)).setCell ⟨w.heap.size + 1 + 1 + 1, 3, none⟩ (.int .i64 D.y1)) ∧ Gs ((((w1.setCell ⟨w.heap.size + 1 + 1 + 1, 0, none⟩ (.int .i64 D.x0)).setCell ⟨w.heap.size + 1 + 1 + 1, 1, none⟩ (.int .i64 D.y0)).setCell ⟨w.heap.size + 1 + 1 + 1, 2, none⟩ (.int .i64 D.x1)).setCell ⟨w.heap.size + 1 + 1 + 1, 3, none⟩ (.int .i64 D.y1)) (w.heap.size + 1 + 1 + 1) D [] none 0 0 0 0 ((((w1.setCell ⟨w.heap.size + 1 + 1 + 1, 0, none⟩ (.int .i64 D.x0)).setCell ⟨w.heap.size + 1 + 1 + 1, 1, none⟩ (.int .i64 D.y0)).setCell ⟨w.heap.size + 1 + 1 + 1, 2, none⟩ (.int .i64 D.x1)).setCell ⟨w.heap.size + 1 + 1 + 1, 3, none⟩ (.int .i64 D.y1))) :=
      ⟨HW1.out.1.but hbs (by omega), has4_but HW1.out.2.1 hbs (by omega), HW1.out.2.2.1.but hbs (by omega), HW1.out.2.2.2.2.trans (hbs.low (by omega) HW1.out.2.2.2.2.size), ⟨has5_box HW1.out.2.2.2.1 _ _ _ _, oz_nil _ _ _ _, Below.refl _ _⟩⟩
    clear hbs d0 d1 d2 d3 df o0 o1 o2 o3 o4 of4 HW1
    generalize ((((w1.setCell ⟨w.heap.size + 1 + 1 + 1, 0, none⟩ (.int .i64 D.x0)).setCell ⟨w.heap.size + 1 + 1 + 1, 1, none⟩ (.int .i64 D.y0)).setCell ⟨w.heap.size + 1 + 1 + 1, 2, none⟩ (.int .i64 D.x1)).setCell ⟨w.heap.size + 1 + 1 + 1, 3, none⟩ (.int .i64 D.y1)) = W0 at HX ⊢
    go_loopg [12] (D.y1 - D.y0).toNat (fun gh v12 wr => ∃ y oo on om og ooff, D.y0 ≤ y ∧ y ≤ D.y1 ∧ gh = (D.y1 - y).toNat ∧ v12 = .int .i64 y ∧ Gs W0 (w.heap.size + 1 + 1 + 1) D ((img D G).take (posN D D.x0 y)) oo on om og ooff wr)
    case atStart => exact ⟨D.y0, none, 0, 0, 0, 0, Int.le_refl _, by omega, rfl, rfl, by rw [pos_first]; exact HX.out.2.2.2.2⟩
    case round =>
      obtain ⟨y, oo, on, om, og, ooff, hy0, hy1, rfl, rfl, hG⟩ := hrel
      have HG1 := hid hG
      obtain ⟨d0, d1, d2, d3, df⟩ := has4_low HX.out.2.1 hG.low (by omega)
      by_cases hlt : y < D.y1
      · clear hG
        go_wp2
        go_loopg [13] (D.x1 - D.x0).toNat (fun gh v13 wr => ∃ x oo on om og ooff, D.x0 ≤ x ∧ x ≤ D.x1 ∧ gh = (D.x1 - x).toNat ∧ v13 = .int .i64 x ∧ Gs W0 (w.heap.size + 1 + 1 + 1) D ((img D G).take (posN D x y)) oo on om og ooff wr)
        case atStart => exact ⟨D.x0, _, _, _, _, _, Int.le_refl _, by omega, rfl, rfl, HG1.out⟩
        case round =>
          clear HG1 d0 d1 d2 d3 df oo on om og ooff
          obtain ⟨x, oo, on, om, og, ooff, hx0, hx1, rfl, rfl, hG⟩ := hrel
          have HG1 := hid hG
          obtain ⟨d0, d1, d2, d3, df⟩ := has4_low HX.out.2.1 hG.low (by omega)
          by_cases hltx : x < D.x1
          · have hon : on ≤ 1000000 := by have h1 := vx_len hG.x.v; have h2 := take_len D G (posN D x y); omega
            have hl5 : w.heap.size + 1 + 1 + 1 < wr.heap.size := hG.lt
            have HA0 : Hid (As W0 (w.heap.size + 1 + 1 + 1) D ((img D G).take (posN D x y)) oo on om og ooff wr.heap.size noX (wr.alloc (.cells #[.int .i64 0, .int .i64 0, .int .i64 0, .int .i64 0] 85))) :=
              ⟨hG.below ((Below.refl _ _).alloc (Nat.le_refl _) _), Rc.Has4.new rfl _ _ _ _ _, hl5, fun hc => by have := (hG.x.new hc).2; omega⟩
            have HKS : Hid (wr.heap.size < (wr.alloc (.cells #[.int .i64 0, .int .i64 0, .int .i64 0, .int .i64 0] 85)).heap.size) := by show wr.heap.size < _; simp
            clear hG
            go_wp2
            generalize wr.alloc (.cells #[.int .i64 0, .int .i64 0, .int .i64 0, .int .i64 0] 85) = wr1 at HA0 HKS ⊢
            generalize wr.heap.size = ks at HA0 HKS ⊢
            go_loopg [15] (2 * r + 1) (fun gh v15 wr => ∃ v, -(r : Int) ≤ v ∧ v ≤ (r : Int) + 1 ∧ gh = ((r : Int) + 1 - v).toNat ∧ v15 = .int .i64 v ∧ As W0 (w.heap.size + 1 + 1 + 1) D ((img D G).take (posN D x y)) oo on om og ooff ks (sumX (fun v => atX B f v y) (x - (r : Int)) (v + (r : Int)).toNat) wr)
            case atStart => exact ⟨-(r : Int), Int.le_refl _, by omega, by omega, rfl, by rw [show (-(r : Int) + (r : Int)).toNat = 0 by omega]; exact HA0.out⟩
            case round =>
              clear HA0 d0 d1 d2 d3 df HG1 HKS hl5
              obtain ⟨v, hv0, hv1, rfl, rfl, hA⟩ := hrel
              obtain ⟨S, hS⟩ : ∃ S, S = (sumX (fun v => atX B f v y) (x - (r : Int)) (v + (r : Int)).toNat) := ⟨_, rfl⟩
              rw [← hS] at hA
              have HA := hid hA
              by_cases hltv : v ≤ (r : Int)
              · obtain ⟨p, hp⟩ : ∃ p, p = atX B f (x + v) y := ⟨_, rfl⟩
                have HPX : Hid (atX B f (x + v) y = p) := hp.symm
                have HPB : Hid (byteX p) := by show byteX p; rw [hp]; exact at_byte HH.out.2.2 _ _
                have HT : Hid (addX S p = (sumX (fun v => atX B f v y) (x - (r : Int)) ((v + 1) + (r : Int)).toNat)) := by
                  show addX S p = _
                  rw [show (v + 1 + (r : Int)).toNat = (v + (r : Int)).toNat + 1 by omega, sumX, ← hS, hp]
                  congr 2
                  omega
                have hSb : upX (255 * 511) S := by
                  have := sum_up (h := (fun v => atX B f v y)) (fun u => at_byte HH.out.2.2 _ _) (x - (r : Int)) (v + (r : Int)).toNat
                  rw [← hS] at this
                  unfold upX at *
                  omega
                obtain ⟨⟨a0, a1⟩, ⟨a2, a3⟩, ⟨a4, a5⟩, a6, a7⟩ := hSb
                obtain ⟨⟨c0, c1⟩, ⟨c2, c3⟩, ⟨c4, c5⟩, c6, c7⟩ := HPB.out
                obtain ⟨q0, q1, q2, q3, q4, qf⟩ := has5_low HX.out.1 hA.g.low (by omega)
                have HV : Hid (Vx wr ao n m g off (img B f)) := HH.out.1.below (HX.out.2.2.2.1.trans (hA.g.low.mono (by omega)))
                clear hA hp hS
                go_wp2_with (go_at_call 32; with_reducible refine Calls.mono (refAt_any B ao n m g off f _ _ _ HH.out.2.1 (by omega) (by omega) (by omega) HV.out) ?_; rintro e w2 ⟨rfl, hb2⟩; rw [HPX.out]; have HA2 := hid (HA.out.below hb2); clear hb2)
                have HA3 : Hid (As W0 (w.heap.size + 1 + 1 + 1) D ((img D G).take (posN D x y)) oo on om og ooff ks (partX 0 S (addX S p)) (w2.alloc (.cells #[.int .u8 p.c0, .int .u8 p.c1, .int .u8 p.c2, .int .u8 p.c3] 28)) ∧ Rc.Has4 (w2.alloc (.cells #[.int .u8 p.c0, .int .u8 p.c1, .int .u8 p.c2, .int .u8 p.c3] 28)) w2.heap.size (.int .u8 p.c0) (.int .u8 p.c1) (.int .u8 p.c2) (.int .u8 p.c3)) := ⟨HA2.out.below ((Below.refl _ _).alloc (Nat.le_refl _) _), Rc.Has4.new rfl _ _ _ _ _⟩
                have hkp : w2.heap.size ≠ ks := by have := HA2.out.u.lt; omega
                have hkp' := Ne.symm hkp
                have g0 : IntKind.i64.wrap p.c0 = p.c0 := by rw [IntKind.wrap_i64]; omega
                have g1 : IntKind.i64.wrap p.c1 = p.c1 := by rw [IntKind.wrap_i64]; omega
                have g2 : IntKind.i64.wrap p.c2 = p.c2 := by rw [IntKind.wrap_i64]; omega
                have g3 : IntKind.i64.wrap p.c3 = p.c3 := by rw [IntKind.wrap_i64]; omega
                have k0 : IntKind.i64.wrap (S.c0 + p.c0) = S.c0 + p.c0 := by rw [IntKind.wrap_i64]; omega
                have k1 : IntKind.i64.wrap (S.c1 + p.c1) = S.c1 + p.c1 := by rw [IntKind.wrap_i64]; omega
                have k2 : IntKind.i64.wrap (S.c2 + p.c2) = S.c2 + p.c2 := by rw [IntKind.wrap_i64]; omega
                have k3 : IntKind.i64.wrap (S.c3 + p.c3) = S.c3 + p.c3 := by rw [IntKind.wrap_i64]; omega
                clear q0 q1 q2 q3 q4 qf HA2
                generalize w2.alloc (.cells #[.int .u8 p.c0, .int .u8 p.c1, .int .u8 p.c2, .int .u8 p.c3] 28) = w3 at HA3 ⊢
                generalize w2.heap.size = kp at HA3 hkp hkp' ⊢
                go_loopg [17] 4 (fun gh v17 wr => ∃ i : Nat, i ≤ 4 ∧ gh = 4 - i ∧ v17 = .int .i64 (i : Int) ∧ As W0 (w.heap.size + 1 + 1 + 1) D ((img D G).take (posN D x y)) oo on om og ooff ks (partX i S (addX S p)) wr ∧ Rc.Has4 wr kp (.int .u8 p.c0) (.int .u8 p.c1) (.int .u8 p.c2) (.int .u8 p.c3))
                case atStart => exact ⟨0, Nat.zero_le _, rfl, rfl, HA3.out.1, HA3.out.2⟩
                case round =>
                  clear HA3
                  obtain ⟨i, hi, rfl, rfl, hA4, hP4⟩ := hrel
                  have HP4 := hid hP4
                  obtain ⟨p0, p1, p2, p3, pf⟩ := HP4.out
                  clear hP4
                  obtain rfl | rfl | rfl | rfl | rfl : i = 0 ∨ i = 1 ∨ i = 2 ∨ i = 3 ∨ i = 4 := by omega
                  · have HA4 : Hid (As W0 (w.heap.size + 1 + 1 + 1) D ((img D G).take (posN D x y)) oo on om og ooff ks ⟨S.c0, S.c1, S.c2, S.c3⟩ wr) := hA4
                    clear hA4
                    obtain ⟨u0, u1, u2, u3, uf⟩ := HA4.out.u
                    go_wp2
                    go_region
                    all_goals
                      go_wp2
                      go_roundg (4 - 1)
                      case measure => decide
                      case rel => exact ⟨1, by decide, rfl, rfl, ((HA4.out.below (below_drewN (Below.refl _ _) 1)).to (s' := ⟨S.c0 + p.c0, S.c1, S.c2, S.c3⟩) (but_cell _ ks 0 _) (h4s0 (HA4.out.below (below_drewN (Below.refl _ _) 1)).u _)), has4_but (HP4.out.below (below_drewN (Below.refl _ _) 1)) (but_cell _ ks 0 _) hkp⟩
                  · have HA4 : Hid (As W0 (w.heap.size + 1 + 1 + 1) D ((img D G).take (posN D x y)) oo on om og ooff ks ⟨S.c0 + p.c0, S.c1, S.c2, S.c3⟩ wr) := hA4
                    clear hA4
                    obtain ⟨u0, u1, u2, u3, uf⟩ := HA4.out.u
                    go_wp2
                    go_region
                    all_goals
                      go_wp2
                      go_roundg (4 - 2)
                      case measure => decide
                      case rel => exact ⟨2, by decide, rfl, rfl, ((HA4.out.below (below_drewN (Below.refl _ _) 1)).to (s' := ⟨S.c0 + p.c0, S.c1 + p.c1, S.c2, S.c3⟩) (but_cell _ ks 1 _) (h4s1 (HA4.out.below (below_drewN (Below.refl _ _) 1)).u _)), has4_but (HP4.out.below (below_drewN (Below.refl _ _) 1)) (but_cell _ ks 1 _) hkp⟩
                  · have HA4 : Hid (As W0 (w.heap.size + 1 + 1 + 1) D ((img D G).take (posN D x y)) oo on om og ooff ks ⟨S.c0 + p.c0, S.c1 + p.c1, S.c2, S.c3⟩ wr) := hA4
                    clear hA4
                    obtain ⟨u0, u1, u2, u3, uf⟩ := HA4.out.u
                    go_wp2
                    go_region
                    all_goals
                      go_wp2
                      go_roundg (4 - 3)
                      case measure => decide
                      case rel => exact ⟨3, by decide, rfl, rfl, ((HA4.out.below (below_drewN (Below.refl _ _) 1)).to (s' := ⟨S.c0 + p.c0, S.c1 + p.c1, S.c2 + p.c2, S.c3⟩) (but_cell _ ks 2 _) (h4s2 (HA4.out.below (below_drewN (Below.refl _ _) 1)).u _)), has4_but (HP4.out.below (below_drewN (Below.refl _ _) 1)) (but_cell _ ks 2 _) hkp⟩
                  · have HA4 : Hid (As W0 (w.heap.size + 1 + 1 + 1) D ((img D G).take (posN D x y)) oo on om og ooff ks ⟨S.c0 + p.c0, S.c1 + p.c1, S.c2 + p.c2, S.c3⟩ wr) := hA4
                    clear hA4
                    obtain ⟨u0, u1, u2, u3, uf⟩ := HA4.out.u
                    go_wp2
                    go_region
                    all_goals
                      go_wp2
                      go_roundg (4 - 4)
                      case measure => decide
                      case rel => exact ⟨4, by decide, rfl, rfl, ((HA4.out.below (below_drewN (Below.refl _ _) 1)).to (s' := ⟨S.c0 + p.c0, S.c1 + p.c1, S.c2 + p.c2, S.c3 + p.c3⟩) (but_cell _ ks 3 _) (h4s3 (HA4.out.below (below_drewN (Below.refl _ _) 1)).u _)), has4_but (HP4.out.below (below_drewN (Below.refl _ _) 1)) (but_cell _ ks 3 _) hkp⟩
                  · have HA4 : Hid (As W0 (w.heap.size + 1 + 1 + 1) D ((img D G).take (posN D x y)) oo on om og ooff ks (addX S p) wr) := hA4
                    clear hA4
                    go_wp2
                    go_roundg ((r : Int) + 1 - (v + 1)).toNat
                    case measure => omega
                    case rel => exact ⟨v + 1, by omega, by omega, rfl, rfl, by rw [← HT.out]; exact HA4.out⟩
              · obtain rfl : v = (r : Int) + 1 := by omega
                have HM : Hid (meanX S (r : Int) = G x y) := by
                  show meanX S (r : Int) = G x y
                  rw [hS, HG.out, show ((r : Int) + 1 + (r : Int)).toNat = 2 * r + 1 by omega]
                  rfl
                have hSb : upX (255 * (2 * (r : Int) + 1)) S := by
                  have := sum_up (h := (fun v => atX B f v y)) (fun u => at_byte HH.out.2.2 _ _) (x - (r : Int)) ((r : Int) + 1 + (r : Int)).toNat
                  rw [← hS] at this
                  rwa [show ((((r : Int) + 1 + (r : Int)).toNat : Nat) : Int) = 2 * (r : Int) + 1 by omega] at this
                have HSB : Hid ((0 ≤ S.c0 ∧ S.c0 ≤ 255 * (2 * (r : Int) + 1)) ∧ (0 ≤ S.c1 ∧ S.c1 ≤ 255 * (2 * (r : Int) + 1)) ∧ (0 ≤ S.c2 ∧ S.c2 ≤ 255 * (2 * (r : Int) + 1)) ∧ (0 ≤ S.c3 ∧ S.c3 ≤ 255 * (2 * (r : Int) + 1))) := hSb
                have k0 : IntKind.i64.wrap (2 * (r : Int)) = 2 * (r : Int) := by rw [IntKind.wrap_i64]; omega
                have k1 : IntKind.i64.wrap (2 * (r : Int) + 1) = 2 * (r : Int) + 1 := by rw [IntKind.wrap_i64]; omega
                clear hS hA hSb
                go_wp2
                replace HA := hid (HA.out.below (Below.refl _ _).drew)
                refine wp_region_held_drew (S := (fun w' => w'.cell? ⟨ks, 0, none⟩ = some (.int .i64 S.c0) ∧ w'.cell? ⟨ks, 1, none⟩ = some (.int .i64 S.c1) ∧ w'.cell? ⟨ks, 2, none⟩ = some (.int .i64 S.c2) ∧ w'.cell? ⟨ks, 3, none⟩ = some (.int .i64 S.c3))) (by kernel_rfl) ⟨HA.out.u.c0, HA.out.u.c1, HA.out.u.c2, HA.out.u.c3⟩ (fun hHeld => ?_)
                generalize wr.drew = wd at HA hHeld ⊢
                have hS0 := hHeld
                obtain ⟨u0, u1, u2, u3, uf⟩ := HA.out.u
                obtain ⟨o0, o1, o2, o3, o4, of4⟩ := HA.out.g.o
                have hlo : w.heap.size + 1 + 1 + 1 + 1 ≤ wd.heap.size := HA.out.g.lt
                have HKN : Hid (ks < wd.heap.size ∧ w.heap.size + 1 + 1 + 1 < wd.heap.size ∧ (0 < om → ks ≠ og) ∧ (0 < om → w.heap.size + 1 + 1 + 1 ≠ og)) := ⟨HA.out.u.lt, HA.out.g.lt, fun hc => Ne.symm (HA.out.ne hc), fun hc => by have := (HA.out.g.x.new hc).1; omega⟩
                refine wpAnyH_take (i := 1) (oi := { dst := some 74, op := Op.indexAddr 85 (Operand.tmp 14) (Operand.const (Value.int IntKind.i64 0)), type := 0, pos := "ref.go:35", after := #[], guard := none }) (v := ?_) rfl (by kernel_rfl) (by kernel_rfl) (by kernel_rfl) (fun _ _ _ h => h) (Or.inl ⟨by rfl, ?hy⟩) (by assumption) ?_
                case hy => (intro w hSw; (try dsimp only at hSw); go_simp; first | done | with_reducible rfl)
                try simp only [Act.put, List.setIfInBounds_toArray, List.set_cons_zero, List.set_cons_succ]
                refine wpAnyH_take (i := 2) (oi := { dst := some 75, op := Op.load 3 (Operand.tmp 74), type := 3, pos := "ref.go:35", after := #[{ on := 1, ground := Ground.data }], guard := none }) (v := ?_) rfl (by kernel_rfl) (by kernel_rfl) (by kernel_rfl) (fun _ _ _ h => h) (Or.inl ⟨by rfl, ?hy⟩) (by assumption) ?_
                case hy => (intro w hSw; (try dsimp only at hSw); go_simp; first | done | with_reducible rfl)
                try simp only [Act.put, List.setIfInBounds_toArray, List.set_cons_zero, List.set_cons_succ]
                refine wpAnyH_take (i := 3) (oi := { dst := some 76, op := Op.move (Operand.tmp 2), type := 3, pos := "ref.go:35", after := #[], guard := none }) (v := ?_) rfl (by kernel_rfl) (by kernel_rfl) (by kernel_rfl) (fun _ _ _ h => h) (Or.inl ⟨by rfl, ?hy⟩) (by assumption) ?_
                case hy => (intro w hSw; (try dsimp only at hSw); go_simp; first | done | with_reducible rfl)
                try simp only [Act.put, List.setIfInBounds_toArray, List.set_cons_zero, List.set_cons_succ]
                refine wpAnyH_take (i := 4) (oi := { dst := some 77, op := Op.binOp BinOp.mul 3 (Operand.const (Value.int IntKind.i64 2)) (Operand.tmp 76) 3, type := 3, pos := "ref.go:35", after := #[{ on := 3, ground := Ground.data }], guard := none }) (v := ?_) rfl (by kernel_rfl) (by kernel_rfl) (by kernel_rfl) (fun _ _ _ h => h) (Or.inl ⟨by rfl, ?hy⟩) (by assumption) ?_
                case hy => (intro w hSw; (try dsimp only at hSw); go_simp; first | done | with_reducible rfl)
                try simp only [Act.put, List.setIfInBounds_toArray, List.set_cons_zero, List.set_cons_succ]
                refine wpAnyH_take (i := 5) (oi := { dst := some 78, op := Op.binOp BinOp.add 3 (Operand.tmp 77) (Operand.const (Value.int IntKind.i64 1)) 3, type := 3, pos := "ref.go:35", after := #[{ on := 4, ground := Ground.data }], guard := none }) (v := ?_) rfl (by kernel_rfl) (by kernel_rfl) (by kernel_rfl) (fun _ _ _ h => h) (Or.inl ⟨by rfl, ?hy⟩) (by assumption) ?_
                case hy => (intro w hSw; (try dsimp only at hSw); go_simp; first | done | with_reducible rfl)
                try simp only [Act.put, List.setIfInBounds_toArray, List.set_cons_zero, List.set_cons_succ]
                refine wpAnyH_take (i := 7) (oi := { dst := some 80, op := Op.indexAddr 85 (Operand.tmp 14) (Operand.const (Value.int IntKind.i64 1)), type := 0, pos := "ref.go:35", after := #[], guard := none }) (v := ?_) rfl (by kernel_rfl) (by kernel_rfl) (by kernel_rfl) (fun _ _ _ h => h) (Or.inl ⟨by rfl, ?hy⟩) (by assumption) ?_
                case hy => (intro w hSw; (try dsimp only at hSw); go_simp; first | done | with_reducible rfl)
                try simp only [Act.put, List.setIfInBounds_toArray, List.set_cons_zero, List.set_cons_succ]
                refine wpAnyH_take (i := 8) (oi := { dst := some 81, op := Op.load 3 (Operand.tmp 80), type := 3, pos := "ref.go:35", after := #[{ on := 7, ground := Ground.data }], guard := none }) (v := ?_) rfl (by kernel_rfl) (by kernel_rfl) (by kernel_rfl) (fun _ _ _ h => h) (Or.inl ⟨by rfl, ?hy⟩) (by assumption) ?_
                case hy => (intro w hSw; (try dsimp only at hSw); go_simp; first | done | with_reducible rfl)
                try simp only [Act.put, List.setIfInBounds_toArray, List.set_cons_zero, List.set_cons_succ]
                refine wpAnyH_take (i := 9) (oi := { dst := some 82, op := Op.move (Operand.tmp 2), type := 3, pos := "ref.go:35", after := #[], guard := none }) (v := ?_) rfl (by kernel_rfl) (by kernel_rfl) (by kernel_rfl) (fun _ _ _ h => h) (Or.inl ⟨by rfl, ?hy⟩) (by assumption) ?_
                case hy => (intro w hSw; (try dsimp only at hSw); go_simp; first | done | with_reducible rfl)
                try simp only [Act.put, List.setIfInBounds_toArray, List.set_cons_zero, List.set_cons_succ]
                refine wpAnyH_take (i := 10) (oi := { dst := some 83, op := Op.binOp BinOp.mul 3 (Operand.const (Value.int IntKind.i64 2)) (Operand.tmp 82) 3, type := 3, pos := "ref.go:35", after := #[{ on := 9, ground := Ground.data }], guard := none }) (v := ?_) rfl (by kernel_rfl) (by kernel_rfl) (by kernel_rfl) (fun _ _ _ h => h) (Or.inl ⟨by rfl, ?hy⟩) (by assumption) ?_
                case hy => (intro w hSw; (try dsimp only at hSw); go_simp; first | done | with_reducible rfl)
                try simp only [Act.put, List.setIfInBounds_toArray, List.set_cons_zero, List.set_cons_succ]
                refine wpAnyH_take (i := 11) (oi := { dst := some 84, op := Op.binOp BinOp.add 3 (Operand.tmp 83) (Operand.const (Value.int IntKind.i64 1)) 3, type := 3, pos := "ref.go:35", after := #[{ on := 10, ground := Ground.data }], guard := none }) (v := ?_) rfl (by kernel_rfl) (by kernel_rfl) (by kernel_rfl) (fun _ _ _ h => h) (Or.inl ⟨by rfl, ?hy⟩) (by assumption) ?_
                case hy => (intro w hSw; (try dsimp only at hSw); go_simp; first | done | with_reducible rfl)
                try simp only [Act.put, List.setIfInBounds_toArray, List.set_cons_zero, List.set_cons_succ]
                refine wpAnyH_take (i := 13) (oi := { dst := some 86, op := Op.indexAddr 85 (Operand.tmp 14) (Operand.const (Value.int IntKind.i64 2)), type := 0, pos := "ref.go:35", after := #[], guard := none }) (v := ?_) rfl (by kernel_rfl) (by kernel_rfl) (by kernel_rfl) (fun _ _ _ h => h) (Or.inl ⟨by rfl, ?hy⟩) (by assumption) ?_
                case hy => (intro w hSw; (try dsimp only at hSw); go_simp; first | done | with_reducible rfl)
                try simp only [Act.put, List.setIfInBounds_toArray, List.set_cons_zero, List.set_cons_succ]
                refine wpAnyH_take (i := 14) (oi := { dst := some 87, op := Op.load 3 (Operand.tmp 86), type := 3, pos := "ref.go:35", after := #[{ on := 13, ground := Ground.data }], guard := none }) (v := ?_) rfl (by kernel_rfl) (by kernel_rfl) (by kernel_rfl) (fun _ _ _ h => h) (Or.inl ⟨by rfl, ?hy⟩) (by assumption) ?_
                case hy => (intro w hSw; (try dsimp only at hSw); go_simp; first | done | with_reducible rfl)
                try simp only [Act.put, List.setIfInBounds_toArray, List.set_cons_zero, List.set_cons_succ]
                refine wpAnyH_take (i := 15) (oi := { dst := some 88, op := Op.move (Operand.tmp 2), type := 3, pos := "ref.go:35", after := #[], guard := none }) (v := ?_) rfl (by kernel_rfl) (by kernel_rfl) (by kernel_rfl) (fun _ _ _ h => h) (Or.inl ⟨by rfl, ?hy⟩) (by assumption) ?_
                case hy => (intro w hSw; (try dsimp only at hSw); go_simp; first | done | with_reducible rfl)
                try simp only [Act.put, List.setIfInBounds_toArray, List.set_cons_zero, List.set_cons_succ]
                refine wpAnyH_take (i := 16) (oi := { dst := some 89, op := Op.binOp BinOp.mul 3 (Operand.const (Value.int IntKind.i64 2)) (Operand.tmp 88) 3, type := 3, pos := "ref.go:35", after := #[{ on := 15, ground := Ground.data }], guard := none }) (v := ?_) rfl (by kernel_rfl) (by kernel_rfl) (by kernel_rfl) (fun _ _ _ h => h) (Or.inl ⟨by rfl, ?hy⟩) (by assumption) ?_
                case hy => (intro w hSw; (try dsimp only at hSw); go_simp; first | done | with_reducible rfl)
                try simp only [Act.put, List.setIfInBounds_toArray, List.set_cons_zero, List.set_cons_succ]
                refine wpAnyH_take (i := 17) (oi := { dst := some 90, op := Op.binOp BinOp.add 3 (Operand.tmp 89) (Operand.const (Value.int IntKind.i64 1)) 3, type := 3, pos := "ref.go:35", after := #[{ on := 16, ground := Ground.data }], guard := none }) (v := ?_) rfl (by kernel_rfl) (by kernel_rfl) (by kernel_rfl) (fun _ _ _ h => h) (Or.inl ⟨by rfl, ?hy⟩) (by assumption) ?_
                case hy => (intro w hSw; (try dsimp only at hSw); go_simp; first | done | with_reducible rfl)
                try simp only [Act.put, List.setIfInBounds_toArray, List.set_cons_zero, List.set_cons_succ]
                refine wpAnyH_take (i := 19) (oi := { dst := some 92, op := Op.indexAddr 85 (Operand.tmp 14) (Operand.const (Value.int IntKind.i64 3)), type := 0, pos := "ref.go:35", after := #[], guard := none }) (v := ?_) rfl (by kernel_rfl) (by kernel_rfl) (by kernel_rfl) (fun _ _ _ h => h) (Or.inl ⟨by rfl, ?hy⟩) (by assumption) ?_
                case hy => (intro w hSw; (try dsimp only at hSw); go_simp; first | done | with_reducible rfl)
                try simp only [Act.put, List.setIfInBounds_toArray, List.set_cons_zero, List.set_cons_succ]
                refine wpAnyH_take (i := 20) (oi := { dst := some 93, op := Op.load 3 (Operand.tmp 92), type := 3, pos := "ref.go:35", after := #[{ on := 19, ground := Ground.data }], guard := none }) (v := ?_) rfl (by kernel_rfl) (by kernel_rfl) (by kernel_rfl) (fun _ _ _ h => h) (Or.inl ⟨by rfl, ?hy⟩) (by assumption) ?_
                case hy => (intro w hSw; (try dsimp only at hSw); go_simp; first | done | with_reducible rfl)
                try simp only [Act.put, List.setIfInBounds_toArray, List.set_cons_zero, List.set_cons_succ]
                refine wpAnyH_take (i := 21) (oi := { dst := some 94, op := Op.move (Operand.tmp 2), type := 3, pos := "ref.go:35", after := #[], guard := none }) (v := ?_) rfl (by kernel_rfl) (by kernel_rfl) (by kernel_rfl) (fun _ _ _ h => h) (Or.inl ⟨by rfl, ?hy⟩) (by assumption) ?_
                case hy => (intro w hSw; (try dsimp only at hSw); go_simp; first | done | with_reducible rfl)
                try simp only [Act.put, List.setIfInBounds_toArray, List.set_cons_zero, List.set_cons_succ]
                refine wpAnyH_take (i := 22) (oi := { dst := some 95, op := Op.binOp BinOp.mul 3 (Operand.const (Value.int IntKind.i64 2)) (Operand.tmp 94) 3, type := 3, pos := "ref.go:35", after := #[{ on := 21, ground := Ground.data }], guard := none }) (v := ?_) rfl (by kernel_rfl) (by kernel_rfl) (by kernel_rfl) (fun _ _ _ h => h) (Or.inl ⟨by rfl, ?hy⟩) (by assumption) ?_
                case hy => (intro w hSw; (try dsimp only at hSw); go_simp; first | done | with_reducible rfl)
                try simp only [Act.put, List.setIfInBounds_toArray, List.set_cons_zero, List.set_cons_succ]
                refine wpAnyH_take (i := 23) (oi := { dst := some 96, op := Op.binOp BinOp.add 3 (Operand.tmp 95) (Operand.const (Value.int IntKind.i64 1)) 3, type := 3, pos := "ref.go:35", after := #[{ on := 22, ground := Ground.data }], guard := none }) (v := ?_) rfl (by kernel_rfl) (by kernel_rfl) (by kernel_rfl) (fun _ _ _ h => h) (Or.inl ⟨by rfl, ?hy⟩) (by assumption) ?_
                case hy => (intro w hSw; (try dsimp only at hSw); go_simp; first | done | with_reducible rfl)
                try simp only [Act.put, List.setIfInBounds_toArray, List.set_cons_zero, List.set_cons_succ]
                refine wpAnyH_ready (rs := [0, 6]) (by kernel_rfl) (by simp) ?_
                refine AllReadyH.cons (o := { dst := some 73, op := Op.load 26 (Operand.tmp 11), type := 26, pos := "ref.go:35", after := #[], guard := none }) rfl (fun K hK => ?_) (AllReadyH.cons (o := { dst := some 79, op := Op.call { callee := Callee.value (Operand.func 91), args := #[Operand.tmp 75, Operand.tmp 78], argTypes := #[3, 3] }, type := 5, pos := "ref.go:35", after := #[{ on := 2, ground := Ground.data }, { on := 5, ground := Ground.data }], guard := none }) rfl (fun K hK => ?_) AllReadyH.nil)
                · go_simp
                  refine hK.out _ _ ?_ (fun hHeld => ?_)
                  · exact hS0
                  clear hK K
                  try simp only [Act.put, List.setIfInBounds_toArray, List.set_cons_zero, List.set_cons_succ]
                  refine wpAnyH_ready (rs := [6]) (by kernel_rfl) (by simp) ?_
                  refine AllReadyH.cons (o := { dst := some 79, op := Op.call { callee := Callee.value (Operand.func 91), args := #[Operand.tmp 75, Operand.tmp 78], argTypes := #[3, 3] }, type := 5, pos := "ref.go:35", after := #[{ on := 2, ground := Ground.data }, { on := 5, ground := Ground.data }], guard := none }) rfl (fun K hK => ?_) AllReadyH.nil
                  go_simp
                  (go_at_call 91; with_reducible refine Calls.mono (nearest_any S.c0 r _ HSB.out.1.1 HSB.out.1.2 hr) ?_; rintro e w4 ⟨rfl, hw4⟩; replace hw4 := hw4.symm; subst hw4)
                  go_wp2_with fail
                  refine hK.out _ _ ?_ (fun hHeld => ?_)
                  · exact hS0
                  clear hK K
                  try simp only [Act.put, List.setIfInBounds_toArray, List.set_cons_zero, List.set_cons_succ]
                  refine wpAnyH_ready (rs := [12]) (by kernel_rfl) (by simp) ?_
                  refine AllReadyH.cons (o := { dst := some 85, op := Op.call { callee := Callee.value (Operand.func 91), args := #[Operand.tmp 81, Operand.tmp 84], argTypes := #[3, 3] }, type := 5, pos := "ref.go:35", after := #[{ on := 8, ground := Ground.data }, { on := 11, ground := Ground.data }, { on := 6, ground := Ground.chain }], guard := none }) rfl (fun K hK => ?_) AllReadyH.nil
                  go_simp
                  (go_at_call 91; with_reducible refine Calls.mono (nearest_any S.c1 r _ HSB.out.2.1.1 HSB.out.2.1.2 hr) ?_; rintro e w4 ⟨rfl, hw4⟩; replace hw4 := hw4.symm; subst hw4)
                  go_wp2_with fail
                  refine hK.out _ _ ?_ (fun hHeld => ?_)
                  · exact hS0
                  clear hK K
                  try simp only [Act.put, List.setIfInBounds_toArray, List.set_cons_zero, List.set_cons_succ]
                  refine wpAnyH_ready (rs := [18]) (by kernel_rfl) (by simp) ?_
                  refine AllReadyH.cons (o := { dst := some 91, op := Op.call { callee := Callee.value (Operand.func 91), args := #[Operand.tmp 87, Operand.tmp 90], argTypes := #[3, 3] }, type := 5, pos := "ref.go:35", after := #[{ on := 14, ground := Ground.data }, { on := 17, ground := Ground.data }, { on := 12, ground := Ground.chain }], guard := none }) rfl (fun K hK => ?_) AllReadyH.nil
                  go_simp
                  (go_at_call 91; with_reducible refine Calls.mono (nearest_any S.c2 r _ HSB.out.2.2.1.1 HSB.out.2.2.1.2 hr) ?_; rintro e w4 ⟨rfl, hw4⟩; replace hw4 := hw4.symm; subst hw4)
                  go_wp2_with fail
                  refine hK.out _ _ ?_ (fun hHeld => ?_)
                  · exact hS0
                  clear hK K
                  try simp only [Act.put, List.setIfInBounds_toArray, List.set_cons_zero, List.set_cons_succ]
                  refine wpAnyH_ready (rs := [24]) (by kernel_rfl) (by simp) ?_
                  refine AllReadyH.cons (o := { dst := some 97, op := Op.call { callee := Callee.value (Operand.func 91), args := #[Operand.tmp 93, Operand.tmp 96], argTypes := #[3, 3] }, type := 5, pos := "ref.go:35", after := #[{ on := 20, ground := Ground.data }, { on := 23, ground := Ground.data }, { on := 18, ground := Ground.chain }], guard := none }) rfl (fun K hK => ?_) AllReadyH.nil
                  go_simp
                  (go_at_call 91; with_reducible refine Calls.mono (nearest_any S.c3 r _ HSB.out.2.2.2.1 HSB.out.2.2.2.2 hr) ?_; rintro e w4 ⟨rfl, hw4⟩; replace hw4 := hw4.symm; subst hw4)
                  go_wp2_with fail
                  refine hK.out _ _ ?_ (fun hHeld => ?_)
                  · exact hS0
                  clear hK K
                  try simp only [Act.put, List.setIfInBounds_toArray, List.set_cons_zero, List.set_cons_succ]
                  refine wpAnyH_take (i := 25) (oi := { dst := some 98, op := Op.build 28 #[(0, Operand.tmp 79), (1, Operand.tmp 85), (2, Operand.tmp 91), (3, Operand.tmp 97)], type := 28, pos := "ref.go:35", after := #[{ on := 6, ground := Ground.data }, { on := 12, ground := Ground.data }, { on := 18, ground := Ground.data }, { on := 24, ground := Ground.data }], guard := none }) (v := ?_) rfl (by kernel_rfl) (by kernel_rfl) (by kernel_rfl) (fun _ _ _ h => h) (Or.inl ⟨by rfl, ?hy⟩) (by assumption) ?_
                  case hy => (intro w hSw; (try dsimp only at hSw); go_simp; first | done | with_reducible rfl)
                  try simp only [Act.put, List.setIfInBounds_toArray, List.set_cons_zero, List.set_cons_succ]
                  refine wpAnyH_ready (rs := [26]) (by kernel_rfl) (by simp) ?_
                  refine AllReadyH.cons (o := { dst := some 99, op := Op.call { callee := Callee.value (Operand.func 47), args := #[Operand.tmp 73, Operand.tmp 98], argTypes := #[26, 28] }, type := 26, pos := "ref.go:35", after := #[{ on := 0, ground := Ground.data }, { on := 25, ground := Ground.data }, { on := 24, ground := Ground.chain }], guard := none }) rfl (fun K hK => ?_) AllReadyH.nil
                  go_simp
                  (go_at_call 47; with_reducible refine Calls.mono (with4 (w.heap.size + 1 + 1 + 1 + 1) D oo on om og ooff ((img D G).take (posN D x y)) (meanI S.c0 (r : Int)) (meanI S.c1 (r : Int)) (meanI S.c2 (r : Int)) (meanI S.c3 (r : Int)) _ HA.out.g.x hlo hon) ?_; rintro e w5 hr5; obtain ⟨oo', om', og', ooff', rfl, hO5, hB5, hot5⟩ := retA hr5; have H5 := hid (HA.out.g.o.block (hot5 (w.heap.size + 1 + 1 + 1) HKN.out.2.1 HKN.out.2.2.2)); have HU5 := hid (has4_block HA.out.u (hot5 ks HKN.out.1 HKN.out.2.2.1)); have HO5 := hid (HA.out.g.next hO5 hB5 H5.out); clear hO5 hB5 hot5 hr5 u0 u1 u2 u3 uf o0 o1 o2 o3 o4 of4)
                  go_wp2_with fail
                  refine hK.out _ _ ?_ (fun hHeld => ?_)
                  · exact ⟨HU5.out.c0, HU5.out.c1, HU5.out.c2, HU5.out.c3⟩
                  clear hK K
                  try simp only [Act.put, List.setIfInBounds_toArray, List.set_cons_zero, List.set_cons_succ]
                  obtain ⟨o0, o1, o2, o3, o4, of4⟩ := H5.out
                  refine wpAnyH_ready (rs := [27]) (by kernel_rfl) (by simp) ?_
                  refine AllReadyH.cons (o := { dst := none, op := Op.store 26 (Operand.tmp 11) (Operand.tmp 99), type := 0, pos := "ref.go:35", after := #[{ on := 26, ground := Ground.data }, { on := 26, ground := Ground.chain }, { on := 0, ground := Ground.phase }, { on := 1, ground := Ground.phase }, { on := 2, ground := Ground.phase }, { on := 3, ground := Ground.phase }, { on := 4, ground := Ground.phase }, { on := 5, ground := Ground.phase }, { on := 6, ground := Ground.phase }, { on := 7, ground := Ground.phase }, { on := 8, ground := Ground.phase }, { on := 9, ground := Ground.phase }, { on := 10, ground := Ground.phase }, { on := 11, ground := Ground.phase }, { on := 12, ground := Ground.phase }, { on := 13, ground := Ground.phase }, { on := 14, ground := Ground.phase }, { on := 15, ground := Ground.phase }, { on := 16, ground := Ground.phase }, { on := 17, ground := Ground.phase }, { on := 18, ground := Ground.phase }, { on := 19, ground := Ground.phase }, { on := 20, ground := Ground.phase }, { on := 21, ground := Ground.phase }, { on := 22, ground := Ground.phase }, { on := 23, ground := Ground.phase }, { on := 24, ground := Ground.phase }, { on := 25, ground := Ground.phase }, { on := 26, ground := Ground.phase }], guard := none }) rfl (fun K hK => ?_) AllReadyH.nil
                  go_simp
                  refine hK.out _ _ ?_ (fun hHeld => ?_)
                  · have h4 := has4_but HU5.out (but_set5 w5 (w.heap.size + 1 + 1 + 1) (.int .i64 D.x0) (.int .i64 D.y0) (.int .i64 D.x1) (.int .i64 D.y1) (.slice oo' (on + 1) om')) (Nat.ne_of_gt HA.out.k)
                    exact ⟨h4.c0, h4.c1, h4.c2, h4.c3⟩
                  clear hK K
                  try simp only [Act.put, List.setIfInBounds_toArray, List.set_cons_zero, List.set_cons_succ]
                  refine wpAnyH_done (by kernel_rfl) ?_ _
                  go_wp2
                  go_roundg (D.x1 - (x + 1)).toNat
                  case measure => omega
                  case rel => exact ⟨x + 1, _, _, _, _, _, by omega, by omega, rfl, rfl, by rw [pos_next D hx0, ← take_more G (decide_eq_true (by omega)), ← HM.out]; exact HO5.out⟩
                · go_simp
                  (go_at_call 91; with_reducible refine Calls.mono (nearest_any S.c0 r _ HSB.out.1.1 HSB.out.1.2 hr) ?_; rintro e w4 ⟨rfl, hw4⟩; replace hw4 := hw4.symm; subst hw4)
                  go_wp2_with fail
                  refine hK.out _ _ ?_ (fun hHeld => ?_)
                  · exact hS0
                  clear hK K
                  try simp only [Act.put, List.setIfInBounds_toArray, List.set_cons_zero, List.set_cons_succ]
                  refine wpAnyH_ready (rs := [0, 12]) (by kernel_rfl) (by simp) ?_
                  refine AllReadyH.cons (o := { dst := some 73, op := Op.load 26 (Operand.tmp 11), type := 26, pos := "ref.go:35", after := #[], guard := none }) rfl (fun K hK => ?_) (AllReadyH.cons (o := { dst := some 85, op := Op.call { callee := Callee.value (Operand.func 91), args := #[Operand.tmp 81, Operand.tmp 84], argTypes := #[3, 3] }, type := 5, pos := "ref.go:35", after := #[{ on := 8, ground := Ground.data }, { on := 11, ground := Ground.data }, { on := 6, ground := Ground.chain }], guard := none }) rfl (fun K hK => ?_) AllReadyH.nil)
                  · go_simp
                    refine hK.out _ _ ?_ (fun hHeld => ?_)
                    · exact hS0
                    clear hK K
                    try simp only [Act.put, List.setIfInBounds_toArray, List.set_cons_zero, List.set_cons_succ]
                    refine wpAnyH_ready (rs := [12]) (by kernel_rfl) (by simp) ?_
                    refine AllReadyH.cons (o := { dst := some 85, op := Op.call { callee := Callee.value (Operand.func 91), args := #[Operand.tmp 81, Operand.tmp 84], argTypes := #[3, 3] }, type := 5, pos := "ref.go:35", after := #[{ on := 8, ground := Ground.data }, { on := 11, ground := Ground.data }, { on := 6, ground := Ground.chain }], guard := none }) rfl (fun K hK => ?_) AllReadyH.nil
                    go_simp
                    (go_at_call 91; with_reducible refine Calls.mono (nearest_any S.c1 r _ HSB.out.2.1.1 HSB.out.2.1.2 hr) ?_; rintro e w4 ⟨rfl, hw4⟩; replace hw4 := hw4.symm; subst hw4)
                    go_wp2_with fail
                    refine hK.out _ _ ?_ (fun hHeld => ?_)
                    · exact hS0
                    clear hK K
                    try simp only [Act.put, List.setIfInBounds_toArray, List.set_cons_zero, List.set_cons_succ]
                    refine wpAnyH_ready (rs := [18]) (by kernel_rfl) (by simp) ?_
                    refine AllReadyH.cons (o := { dst := some 91, op := Op.call { callee := Callee.value (Operand.func 91), args := #[Operand.tmp 87, Operand.tmp 90], argTypes := #[3, 3] }, type := 5, pos := "ref.go:35", after := #[{ on := 14, ground := Ground.data }, { on := 17, ground := Ground.data }, { on := 12, ground := Ground.chain }], guard := none }) rfl (fun K hK => ?_) AllReadyH.nil
                    go_simp
                    (go_at_call 91; with_reducible refine Calls.mono (nearest_any S.c2 r _ HSB.out.2.2.1.1 HSB.out.2.2.1.2 hr) ?_; rintro e w4 ⟨rfl, hw4⟩; replace hw4 := hw4.symm; subst hw4)
                    go_wp2_with fail
                    refine hK.out _ _ ?_ (fun hHeld => ?_)
                    · exact hS0
                    clear hK K
                    try simp only [Act.put, List.setIfInBounds_toArray, List.set_cons_zero, List.set_cons_succ]
                    refine wpAnyH_ready (rs := [24]) (by kernel_rfl) (by simp) ?_
                    refine AllReadyH.cons (o := { dst := some 97, op := Op.call { callee := Callee.value (Operand.func 91), args := #[Operand.tmp 93, Operand.tmp 96], argTypes := #[3, 3] }, type := 5, pos := "ref.go:35", after := #[{ on := 20, ground := Ground.data }, { on := 23, ground := Ground.data }, { on := 18, ground := Ground.chain }], guard := none }) rfl (fun K hK => ?_) AllReadyH.nil
                    go_simp
                    (go_at_call 91; with_reducible refine Calls.mono (nearest_any S.c3 r _ HSB.out.2.2.2.1 HSB.out.2.2.2.2 hr) ?_; rintro e w4 ⟨rfl, hw4⟩; replace hw4 := hw4.symm; subst hw4)
                    go_wp2_with fail
                    refine hK.out _ _ ?_ (fun hHeld => ?_)
                    · exact hS0
                    clear hK K
                    try simp only [Act.put, List.setIfInBounds_toArray, List.set_cons_zero, List.set_cons_succ]
                    refine wpAnyH_take (i := 25) (oi := { dst := some 98, op := Op.build 28 #[(0, Operand.tmp 79), (1, Operand.tmp 85), (2, Operand.tmp 91), (3, Operand.tmp 97)], type := 28, pos := "ref.go:35", after := #[{ on := 6, ground := Ground.data }, { on := 12, ground := Ground.data }, { on := 18, ground := Ground.data }, { on := 24, ground := Ground.data }], guard := none }) (v := ?_) rfl (by kernel_rfl) (by kernel_rfl) (by kernel_rfl) (fun _ _ _ h => h) (Or.inl ⟨by rfl, ?hy⟩) (by assumption) ?_
                    case hy => (intro w hSw; (try dsimp only at hSw); go_simp; first | done | with_reducible rfl)
                    try simp only [Act.put, List.setIfInBounds_toArray, List.set_cons_zero, List.set_cons_succ]
                    refine wpAnyH_ready (rs := [26]) (by kernel_rfl) (by simp) ?_
                    refine AllReadyH.cons (o := { dst := some 99, op := Op.call { callee := Callee.value (Operand.func 47), args := #[Operand.tmp 73, Operand.tmp 98], argTypes := #[26, 28] }, type := 26, pos := "ref.go:35", after := #[{ on := 0, ground := Ground.data }, { on := 25, ground := Ground.data }, { on := 24, ground := Ground.chain }], guard := none }) rfl (fun K hK => ?_) AllReadyH.nil
                    go_simp
                    (go_at_call 47; with_reducible refine Calls.mono (with4 (w.heap.size + 1 + 1 + 1 + 1) D oo on om og ooff ((img D G).take (posN D x y)) (meanI S.c0 (r : Int)) (meanI S.c1 (r : Int)) (meanI S.c2 (r : Int)) (meanI S.c3 (r : Int)) _ HA.out.g.x hlo hon) ?_; rintro e w5 hr5; obtain ⟨oo', om', og', ooff', rfl, hO5, hB5, hot5⟩ := retA hr5; have H5 := hid (HA.out.g.o.block (hot5 (w.heap.size + 1 + 1 + 1) HKN.out.2.1 HKN.out.2.2.2)); have HU5 := hid (has4_block HA.out.u (hot5 ks HKN.out.1 HKN.out.2.2.1)); have HO5 := hid (HA.out.g.next hO5 hB5 H5.out); clear hO5 hB5 hot5 hr5 u0 u1 u2 u3 uf o0 o1 o2 o3 o4 of4)
                    go_wp2_with fail
                    refine hK.out _ _ ?_ (fun hHeld => ?_)
                    · exact ⟨HU5.out.c0, HU5.out.c1, HU5.out.c2, HU5.out.c3⟩
                    clear hK K
                    try simp only [Act.put, List.setIfInBounds_toArray, List.set_cons_zero, List.set_cons_succ]
                    obtain ⟨o0, o1, o2, o3, o4, of4⟩ := H5.out
                    refine wpAnyH_ready (rs := [27]) (by kernel_rfl) (by simp) ?_
                    refine AllReadyH.cons (o := { dst := none, op := Op.store 26 (Operand.tmp 11) (Operand.tmp 99), type := 0, pos := "ref.go:35", after := #[{ on := 26, ground := Ground.data }, { on := 26, ground := Ground.chain }, { on := 0, ground := Ground.phase }, { on := 1, ground := Ground.phase }, { on := 2, ground := Ground.phase }, { on := 3, ground := Ground.phase }, { on := 4, ground := Ground.phase }, { on := 5, ground := Ground.phase }, { on := 6, ground := Ground.phase }, { on := 7, ground := Ground.phase }, { on := 8, ground := Ground.phase }, { on := 9, ground := Ground.phase }, { on := 10, ground := Ground.phase }, { on := 11, ground := Ground.phase }, { on := 12, ground := Ground.phase }, { on := 13, ground := Ground.phase }, { on := 14, ground := Ground.phase }, { on := 15, ground := Ground.phase }, { on := 16, ground := Ground.phase }, { on := 17, ground := Ground.phase }, { on := 18, ground := Ground.phase }, { on := 19, ground := Ground.phase }, { on := 20, ground := Ground.phase }, { on := 21, ground := Ground.phase }, { on := 22, ground := Ground.phase }, { on := 23, ground := Ground.phase }, { on := 24, ground := Ground.phase }, { on := 25, ground := Ground.phase }, { on := 26, ground := Ground.phase }], guard := none }) rfl (fun K hK => ?_) AllReadyH.nil
                    go_simp
                    refine hK.out _ _ ?_ (fun hHeld => ?_)
                    · have h4 := has4_but HU5.out (but_set5 w5 (w.heap.size + 1 + 1 + 1) (.int .i64 D.x0) (.int .i64 D.y0) (.int .i64 D.x1) (.int .i64 D.y1) (.slice oo' (on + 1) om')) (Nat.ne_of_gt HA.out.k)
                      exact ⟨h4.c0, h4.c1, h4.c2, h4.c3⟩
                    clear hK K
                    try simp only [Act.put, List.setIfInBounds_toArray, List.set_cons_zero, List.set_cons_succ]
                    refine wpAnyH_done (by kernel_rfl) ?_ _
                    go_wp2
                    go_roundg (D.x1 - (x + 1)).toNat
                    case measure => omega
                    case rel => exact ⟨x + 1, _, _, _, _, _, by omega, by omega, rfl, rfl, by rw [pos_next D hx0, ← take_more G (decide_eq_true (by omega)), ← HM.out]; exact HO5.out⟩
                  · go_simp
                    (go_at_call 91; with_reducible refine Calls.mono (nearest_any S.c1 r _ HSB.out.2.1.1 HSB.out.2.1.2 hr) ?_; rintro e w4 ⟨rfl, hw4⟩; replace hw4 := hw4.symm; subst hw4)
                    go_wp2_with fail
                    refine hK.out _ _ ?_ (fun hHeld => ?_)
                    · exact hS0
                    clear hK K
                    try simp only [Act.put, List.setIfInBounds_toArray, List.set_cons_zero, List.set_cons_succ]
                    refine wpAnyH_ready (rs := [0, 18]) (by kernel_rfl) (by simp) ?_
                    refine AllReadyH.cons (o := { dst := some 73, op := Op.load 26 (Operand.tmp 11), type := 26, pos := "ref.go:35", after := #[], guard := none }) rfl (fun K hK => ?_) (AllReadyH.cons (o := { dst := some 91, op := Op.call { callee := Callee.value (Operand.func 91), args := #[Operand.tmp 87, Operand.tmp 90], argTypes := #[3, 3] }, type := 5, pos := "ref.go:35", after := #[{ on := 14, ground := Ground.data }, { on := 17, ground := Ground.data }, { on := 12, ground := Ground.chain }], guard := none }) rfl (fun K hK => ?_) AllReadyH.nil)
                    · go_simp
                      refine hK.out _ _ ?_ (fun hHeld => ?_)
                      · exact hS0
                      clear hK K
                      try simp only [Act.put, List.setIfInBounds_toArray, List.set_cons_zero, List.set_cons_succ]
                      refine wpAnyH_ready (rs := [18]) (by kernel_rfl) (by simp) ?_
                      refine AllReadyH.cons (o := { dst := some 91, op := Op.call { callee := Callee.value (Operand.func 91), args := #[Operand.tmp 87, Operand.tmp 90], argTypes := #[3, 3] }, type := 5, pos := "ref.go:35", after := #[{ on := 14, ground := Ground.data }, { on := 17, ground := Ground.data }, { on := 12, ground := Ground.chain }], guard := none }) rfl (fun K hK => ?_) AllReadyH.nil
                      go_simp
                      (go_at_call 91; with_reducible refine Calls.mono (nearest_any S.c2 r _ HSB.out.2.2.1.1 HSB.out.2.2.1.2 hr) ?_; rintro e w4 ⟨rfl, hw4⟩; replace hw4 := hw4.symm; subst hw4)
                      go_wp2_with fail
                      refine hK.out _ _ ?_ (fun hHeld => ?_)
                      · exact hS0
                      clear hK K
                      try simp only [Act.put, List.setIfInBounds_toArray, List.set_cons_zero, List.set_cons_succ]
                      refine wpAnyH_ready (rs := [24]) (by kernel_rfl) (by simp) ?_
                      refine AllReadyH.cons (o := { dst := some 97, op := Op.call { callee := Callee.value (Operand.func 91), args := #[Operand.tmp 93, Operand.tmp 96], argTypes := #[3, 3] }, type := 5, pos := "ref.go:35", after := #[{ on := 20, ground := Ground.data }, { on := 23, ground := Ground.data }, { on := 18, ground := Ground.chain }], guard := none }) rfl (fun K hK => ?_) AllReadyH.nil
                      go_simp
                      (go_at_call 91; with_reducible refine Calls.mono (nearest_any S.c3 r _ HSB.out.2.2.2.1 HSB.out.2.2.2.2 hr) ?_; rintro e w4 ⟨rfl, hw4⟩; replace hw4 := hw4.symm; subst hw4)
                      go_wp2_with fail
                      refine hK.out _ _ ?_ (fun hHeld => ?_)
                      · exact hS0
                      clear hK K
                      try simp only [Act.put, List.setIfInBounds_toArray, List.set_cons_zero, List.set_cons_succ]
                      refine wpAnyH_take (i := 25) (oi := { dst := some 98, op := Op.build 28 #[(0, Operand.tmp 79), (1, Operand.tmp 85), (2, Operand.tmp 91), (3, Operand.tmp 97)], type := 28, pos := "ref.go:35", after := #[{ on := 6, ground := Ground.data }, { on := 12, ground := Ground.data }, { on := 18, ground := Ground.data }, { on := 24, ground := Ground.data }], guard := none }) (v := ?_) rfl (by kernel_rfl) (by kernel_rfl) (by kernel_rfl) (fun _ _ _ h => h) (Or.inl ⟨by rfl, ?hy⟩) (by assumption) ?_
                      case hy => (intro w hSw; (try dsimp only at hSw); go_simp; first | done | with_reducible rfl)
                      try simp only [Act.put, List.setIfInBounds_toArray, List.set_cons_zero, List.set_cons_succ]
                      refine wpAnyH_ready (rs := [26]) (by kernel_rfl) (by simp) ?_
                      refine AllReadyH.cons (o := { dst := some 99, op := Op.call { callee := Callee.value (Operand.func 47), args := #[Operand.tmp 73, Operand.tmp 98], argTypes := #[26, 28] }, type := 26, pos := "ref.go:35", after := #[{ on := 0, ground := Ground.data }, { on := 25, ground := Ground.data }, { on := 24, ground := Ground.chain }], guard := none }) rfl (fun K hK => ?_) AllReadyH.nil
                      go_simp
                      (go_at_call 47; with_reducible refine Calls.mono (with4 (w.heap.size + 1 + 1 + 1 + 1) D oo on om og ooff ((img D G).take (posN D x y)) (meanI S.c0 (r : Int)) (meanI S.c1 (r : Int)) (meanI S.c2 (r : Int)) (meanI S.c3 (r : Int)) _ HA.out.g.x hlo hon) ?_; rintro e w5 hr5; obtain ⟨oo', om', og', ooff', rfl, hO5, hB5, hot5⟩ := retA hr5; have H5 := hid (HA.out.g.o.block (hot5 (w.heap.size + 1 + 1 + 1) HKN.out.2.1 HKN.out.2.2.2)); have HU5 := hid (has4_block HA.out.u (hot5 ks HKN.out.1 HKN.out.2.2.1)); have HO5 := hid (HA.out.g.next hO5 hB5 H5.out); clear hO5 hB5 hot5 hr5 u0 u1 u2 u3 uf o0 o1 o2 o3 o4 of4)
                      go_wp2_with fail
                      refine hK.out _ _ ?_ (fun hHeld => ?_)
                      · exact ⟨HU5.out.c0, HU5.out.c1, HU5.out.c2, HU5.out.c3⟩
                      clear hK K
                      try simp only [Act.put, List.setIfInBounds_toArray, List.set_cons_zero, List.set_cons_succ]
                      obtain ⟨o0, o1, o2, o3, o4, of4⟩ := H5.out
                      refine wpAnyH_ready (rs := [27]) (by kernel_rfl) (by simp) ?_
                      refine AllReadyH.cons (o := { dst := none, op := Op.store 26 (Operand.tmp 11) (Operand.tmp 99), type := 0, pos := "ref.go:35", after := #[{ on := 26, ground := Ground.data }, { on := 26, ground := Ground.chain }, { on := 0, ground := Ground.phase }, { on := 1, ground := Ground.phase }, { on := 2, ground := Ground.phase }, { on := 3, ground := Ground.phase }, { on := 4, ground := Ground.phase }, { on := 5, ground := Ground.phase }, { on := 6, ground := Ground.phase }, { on := 7, ground := Ground.phase }, { on := 8, ground := Ground.phase }, { on := 9, ground := Ground.phase }, { on := 10, ground := Ground.phase }, { on := 11, ground := Ground.phase }, { on := 12, ground := Ground.phase }, { on := 13, ground := Ground.phase }, { on := 14, ground := Ground.phase }, { on := 15, ground := Ground.phase }, { on := 16, ground := Ground.phase }, { on := 17, ground := Ground.phase }, { on := 18, ground := Ground.phase }, { on := 19, ground := Ground.phase }, { on := 20, ground := Ground.phase }, { on := 21, ground := Ground.phase }, { on := 22, ground := Ground.phase }, { on := 23, ground := Ground.phase }, { on := 24, ground := Ground.phase }, { on := 25, ground := Ground.phase }, { on := 26, ground := Ground.phase }], guard := none }) rfl (fun K hK => ?_) AllReadyH.nil
                      go_simp
                      refine hK.out _ _ ?_ (fun hHeld => ?_)
                      · have h4 := has4_but HU5.out (but_set5 w5 (w.heap.size + 1 + 1 + 1) (.int .i64 D.x0) (.int .i64 D.y0) (.int .i64 D.x1) (.int .i64 D.y1) (.slice oo' (on + 1) om')) (Nat.ne_of_gt HA.out.k)
                        exact ⟨h4.c0, h4.c1, h4.c2, h4.c3⟩
                      clear hK K
                      try simp only [Act.put, List.setIfInBounds_toArray, List.set_cons_zero, List.set_cons_succ]
                      refine wpAnyH_done (by kernel_rfl) ?_ _
                      go_wp2
                      go_roundg (D.x1 - (x + 1)).toNat
                      case measure => omega
                      case rel => exact ⟨x + 1, _, _, _, _, _, by omega, by omega, rfl, rfl, by rw [pos_next D hx0, ← take_more G (decide_eq_true (by omega)), ← HM.out]; exact HO5.out⟩
                    · go_simp
                      (go_at_call 91; with_reducible refine Calls.mono (nearest_any S.c2 r _ HSB.out.2.2.1.1 HSB.out.2.2.1.2 hr) ?_; rintro e w4 ⟨rfl, hw4⟩; replace hw4 := hw4.symm; subst hw4)
                      go_wp2_with fail
                      refine hK.out _ _ ?_ (fun hHeld => ?_)
                      · exact hS0
                      clear hK K
                      try simp only [Act.put, List.setIfInBounds_toArray, List.set_cons_zero, List.set_cons_succ]
                      refine wpAnyH_ready (rs := [0, 24]) (by kernel_rfl) (by simp) ?_
                      refine AllReadyH.cons (o := { dst := some 73, op := Op.load 26 (Operand.tmp 11), type := 26, pos := "ref.go:35", after := #[], guard := none }) rfl (fun K hK => ?_) (AllReadyH.cons (o := { dst := some 97, op := Op.call { callee := Callee.value (Operand.func 91), args := #[Operand.tmp 93, Operand.tmp 96], argTypes := #[3, 3] }, type := 5, pos := "ref.go:35", after := #[{ on := 20, ground := Ground.data }, { on := 23, ground := Ground.data }, { on := 18, ground := Ground.chain }], guard := none }) rfl (fun K hK => ?_) AllReadyH.nil)
                      · go_simp
                        refine hK.out _ _ ?_ (fun hHeld => ?_)
                        · exact hS0
                        clear hK K
                        try simp only [Act.put, List.setIfInBounds_toArray, List.set_cons_zero, List.set_cons_succ]
                        refine wpAnyH_ready (rs := [24]) (by kernel_rfl) (by simp) ?_
                        refine AllReadyH.cons (o := { dst := some 97, op := Op.call { callee := Callee.value (Operand.func 91), args := #[Operand.tmp 93, Operand.tmp 96], argTypes := #[3, 3] }, type := 5, pos := "ref.go:35", after := #[{ on := 20, ground := Ground.data }, { on := 23, ground := Ground.data }, { on := 18, ground := Ground.chain }], guard := none }) rfl (fun K hK => ?_) AllReadyH.nil
                        go_simp
                        (go_at_call 91; with_reducible refine Calls.mono (nearest_any S.c3 r _ HSB.out.2.2.2.1 HSB.out.2.2.2.2 hr) ?_; rintro e w4 ⟨rfl, hw4⟩; replace hw4 := hw4.symm; subst hw4)
                        go_wp2_with fail
                        refine hK.out _ _ ?_ (fun hHeld => ?_)
                        · exact hS0
                        clear hK K
                        try simp only [Act.put, List.setIfInBounds_toArray, List.set_cons_zero, List.set_cons_succ]
                        refine wpAnyH_take (i := 25) (oi := { dst := some 98, op := Op.build 28 #[(0, Operand.tmp 79), (1, Operand.tmp 85), (2, Operand.tmp 91), (3, Operand.tmp 97)], type := 28, pos := "ref.go:35", after := #[{ on := 6, ground := Ground.data }, { on := 12, ground := Ground.data }, { on := 18, ground := Ground.data }, { on := 24, ground := Ground.data }], guard := none }) (v := ?_) rfl (by kernel_rfl) (by kernel_rfl) (by kernel_rfl) (fun _ _ _ h => h) (Or.inl ⟨by rfl, ?hy⟩) (by assumption) ?_
                        case hy => (intro w hSw; (try dsimp only at hSw); go_simp; first | done | with_reducible rfl)
                        try simp only [Act.put, List.setIfInBounds_toArray, List.set_cons_zero, List.set_cons_succ]
                        refine wpAnyH_ready (rs := [26]) (by kernel_rfl) (by simp) ?_
                        refine AllReadyH.cons (o := { dst := some 99, op := Op.call { callee := Callee.value (Operand.func 47), args := #[Operand.tmp 73, Operand.tmp 98], argTypes := #[26, 28] }, type := 26, pos := "ref.go:35", after := #[{ on := 0, ground := Ground.data }, { on := 25, ground := Ground.data }, { on := 24, ground := Ground.chain }], guard := none }) rfl (fun K hK => ?_) AllReadyH.nil
                        go_simp
                        (go_at_call 47; with_reducible refine Calls.mono (with4 (w.heap.size + 1 + 1 + 1 + 1) D oo on om og ooff ((img D G).take (posN D x y)) (meanI S.c0 (r : Int)) (meanI S.c1 (r : Int)) (meanI S.c2 (r : Int)) (meanI S.c3 (r : Int)) _ HA.out.g.x hlo hon) ?_; rintro e w5 hr5; obtain ⟨oo', om', og', ooff', rfl, hO5, hB5, hot5⟩ := retA hr5; have H5 := hid (HA.out.g.o.block (hot5 (w.heap.size + 1 + 1 + 1) HKN.out.2.1 HKN.out.2.2.2)); have HU5 := hid (has4_block HA.out.u (hot5 ks HKN.out.1 HKN.out.2.2.1)); have HO5 := hid (HA.out.g.next hO5 hB5 H5.out); clear hO5 hB5 hot5 hr5 u0 u1 u2 u3 uf o0 o1 o2 o3 o4 of4)
                        go_wp2_with fail
                        refine hK.out _ _ ?_ (fun hHeld => ?_)
                        · exact ⟨HU5.out.c0, HU5.out.c1, HU5.out.c2, HU5.out.c3⟩
                        clear hK K
                        try simp only [Act.put, List.setIfInBounds_toArray, List.set_cons_zero, List.set_cons_succ]
                        obtain ⟨o0, o1, o2, o3, o4, of4⟩ := H5.out
                        refine wpAnyH_ready (rs := [27]) (by kernel_rfl) (by simp) ?_
                        refine AllReadyH.cons (o := { dst := none, op := Op.store 26 (Operand.tmp 11) (Operand.tmp 99), type := 0, pos := "ref.go:35", after := #[{ on := 26, ground := Ground.data }, { on := 26, ground := Ground.chain }, { on := 0, ground := Ground.phase }, { on := 1, ground := Ground.phase }, { on := 2, ground := Ground.phase }, { on := 3, ground := Ground.phase }, { on := 4, ground := Ground.phase }, { on := 5, ground := Ground.phase }, { on := 6, ground := Ground.phase }, { on := 7, ground := Ground.phase }, { on := 8, ground := Ground.phase }, { on := 9, ground := Ground.phase }, { on := 10, ground := Ground.phase }, { on := 11, ground := Ground.phase }, { on := 12, ground := Ground.phase }, { on := 13, ground := Ground.phase }, { on := 14, ground := Ground.phase }, { on := 15, ground := Ground.phase }, { on := 16, ground := Ground.phase }, { on := 17, ground := Ground.phase }, { on := 18, ground := Ground.phase }, { on := 19, ground := Ground.phase }, { on := 20, ground := Ground.phase }, { on := 21, ground := Ground.phase }, { on := 22, ground := Ground.phase }, { on := 23, ground := Ground.phase }, { on := 24, ground := Ground.phase }, { on := 25, ground := Ground.phase }, { on := 26, ground := Ground.phase }], guard := none }) rfl (fun K hK => ?_) AllReadyH.nil
                        go_simp
                        refine hK.out _ _ ?_ (fun hHeld => ?_)
                        · have h4 := has4_but HU5.out (but_set5 w5 (w.heap.size + 1 + 1 + 1) (.int .i64 D.x0) (.int .i64 D.y0) (.int .i64 D.x1) (.int .i64 D.y1) (.slice oo' (on + 1) om')) (Nat.ne_of_gt HA.out.k)
                          exact ⟨h4.c0, h4.c1, h4.c2, h4.c3⟩
                        clear hK K
                        try simp only [Act.put, List.setIfInBounds_toArray, List.set_cons_zero, List.set_cons_succ]
                        refine wpAnyH_done (by kernel_rfl) ?_ _
                        go_wp2
                        go_roundg (D.x1 - (x + 1)).toNat
                        case measure => omega
                        case rel => exact ⟨x + 1, _, _, _, _, _, by omega, by omega, rfl, rfl, by rw [pos_next D hx0, ← take_more G (decide_eq_true (by omega)), ← HM.out]; exact HO5.out⟩
                      · go_simp
                        (go_at_call 91; with_reducible refine Calls.mono (nearest_any S.c3 r _ HSB.out.2.2.2.1 HSB.out.2.2.2.2 hr) ?_; rintro e w4 ⟨rfl, hw4⟩; replace hw4 := hw4.symm; subst hw4)
                        go_wp2_with fail
                        refine hK.out _ _ ?_ (fun hHeld => ?_)
                        · exact hS0
                        clear hK K
                        try simp only [Act.put, List.setIfInBounds_toArray, List.set_cons_zero, List.set_cons_succ]
                        refine wpAnyH_take (i := 25) (oi := { dst := some 98, op := Op.build 28 #[(0, Operand.tmp 79), (1, Operand.tmp 85), (2, Operand.tmp 91), (3, Operand.tmp 97)], type := 28, pos := "ref.go:35", after := #[{ on := 6, ground := Ground.data }, { on := 12, ground := Ground.data }, { on := 18, ground := Ground.data }, { on := 24, ground := Ground.data }], guard := none }) (v := ?_) rfl (by kernel_rfl) (by kernel_rfl) (by kernel_rfl) (fun _ _ _ h => h) (Or.inl ⟨by rfl, ?hy⟩) (by assumption) ?_
                        case hy => (intro w hSw; (try dsimp only at hSw); go_simp; first | done | with_reducible rfl)
                        try simp only [Act.put, List.setIfInBounds_toArray, List.set_cons_zero, List.set_cons_succ]
                        refine wpAnyH_ready (rs := [0]) (by kernel_rfl) (by simp) ?_
                        refine AllReadyH.cons (o := { dst := some 73, op := Op.load 26 (Operand.tmp 11), type := 26, pos := "ref.go:35", after := #[], guard := none }) rfl (fun K hK => ?_) AllReadyH.nil
                        go_simp
                        refine hK.out _ _ ?_ (fun hHeld => ?_)
                        · exact hS0
                        clear hK K
                        try simp only [Act.put, List.setIfInBounds_toArray, List.set_cons_zero, List.set_cons_succ]
                        refine wpAnyH_ready (rs := [26]) (by kernel_rfl) (by simp) ?_
                        refine AllReadyH.cons (o := { dst := some 99, op := Op.call { callee := Callee.value (Operand.func 47), args := #[Operand.tmp 73, Operand.tmp 98], argTypes := #[26, 28] }, type := 26, pos := "ref.go:35", after := #[{ on := 0, ground := Ground.data }, { on := 25, ground := Ground.data }, { on := 24, ground := Ground.chain }], guard := none }) rfl (fun K hK => ?_) AllReadyH.nil
                        go_simp
                        (go_at_call 47; with_reducible refine Calls.mono (with4 (w.heap.size + 1 + 1 + 1 + 1) D oo on om og ooff ((img D G).take (posN D x y)) (meanI S.c0 (r : Int)) (meanI S.c1 (r : Int)) (meanI S.c2 (r : Int)) (meanI S.c3 (r : Int)) _ HA.out.g.x hlo hon) ?_; rintro e w5 hr5; obtain ⟨oo', om', og', ooff', rfl, hO5, hB5, hot5⟩ := retA hr5; have H5 := hid (HA.out.g.o.block (hot5 (w.heap.size + 1 + 1 + 1) HKN.out.2.1 HKN.out.2.2.2)); have HU5 := hid (has4_block HA.out.u (hot5 ks HKN.out.1 HKN.out.2.2.1)); have HO5 := hid (HA.out.g.next hO5 hB5 H5.out); clear hO5 hB5 hot5 hr5 u0 u1 u2 u3 uf o0 o1 o2 o3 o4 of4)
                        go_wp2_with fail
                        refine hK.out _ _ ?_ (fun hHeld => ?_)
                        · exact ⟨HU5.out.c0, HU5.out.c1, HU5.out.c2, HU5.out.c3⟩
                        clear hK K
                        try simp only [Act.put, List.setIfInBounds_toArray, List.set_cons_zero, List.set_cons_succ]
                        obtain ⟨o0, o1, o2, o3, o4, of4⟩ := H5.out
                        refine wpAnyH_ready (rs := [27]) (by kernel_rfl) (by simp) ?_
                        refine AllReadyH.cons (o := { dst := none, op := Op.store 26 (Operand.tmp 11) (Operand.tmp 99), type := 0, pos := "ref.go:35", after := #[{ on := 26, ground := Ground.data }, { on := 26, ground := Ground.chain }, { on := 0, ground := Ground.phase }, { on := 1, ground := Ground.phase }, { on := 2, ground := Ground.phase }, { on := 3, ground := Ground.phase }, { on := 4, ground := Ground.phase }, { on := 5, ground := Ground.phase }, { on := 6, ground := Ground.phase }, { on := 7, ground := Ground.phase }, { on := 8, ground := Ground.phase }, { on := 9, ground := Ground.phase }, { on := 10, ground := Ground.phase }, { on := 11, ground := Ground.phase }, { on := 12, ground := Ground.phase }, { on := 13, ground := Ground.phase }, { on := 14, ground := Ground.phase }, { on := 15, ground := Ground.phase }, { on := 16, ground := Ground.phase }, { on := 17, ground := Ground.phase }, { on := 18, ground := Ground.phase }, { on := 19, ground := Ground.phase }, { on := 20, ground := Ground.phase }, { on := 21, ground := Ground.phase }, { on := 22, ground := Ground.phase }, { on := 23, ground := Ground.phase }, { on := 24, ground := Ground.phase }, { on := 25, ground := Ground.phase }, { on := 26, ground := Ground.phase }], guard := none }) rfl (fun K hK => ?_) AllReadyH.nil
                        go_simp
                        refine hK.out _ _ ?_ (fun hHeld => ?_)
                        · have h4 := has4_but HU5.out (but_set5 w5 (w.heap.size + 1 + 1 + 1) (.int .i64 D.x0) (.int .i64 D.y0) (.int .i64 D.x1) (.int .i64 D.y1) (.slice oo' (on + 1) om')) (Nat.ne_of_gt HA.out.k)
                          exact ⟨h4.c0, h4.c1, h4.c2, h4.c3⟩
                        clear hK K
                        try simp only [Act.put, List.setIfInBounds_toArray, List.set_cons_zero, List.set_cons_succ]
                        refine wpAnyH_done (by kernel_rfl) ?_ _
                        go_wp2
                        go_roundg (D.x1 - (x + 1)).toNat
                        case measure => omega
                        case rel => exact ⟨x + 1, _, _, _, _, _, by omega, by omega, rfl, rfl, by rw [pos_next D hx0, ← take_more G (decide_eq_true (by omega)), ← HM.out]; exact HO5.out⟩
          · obtain rfl : D.x1 = x := by omega
            clear hG
            go_wp2
            go_roundg (D.y1 - (y + 1)).toNat
            case measure => omega
            case rel => exact ⟨y + 1, _, _, _, _, _, by omega, by omega, rfl, rfl, by rw [← pos_row D hy0 x01]; exact HG1.out⟩
      · obtain rfl : D.y1 = y := by omega
        have HZ : Hid (Has5 wr (w.heap.size + 1 + 1) ⟨0, 0, 0, 0⟩ none 0 0 ∧ (0 < om → og ≠ w.heap.size + 1 + 1)) := ⟨has5_low HX.out.2.2.1 hG.low (by omega), fun hc => by have := (hG.x.new hc).1; omega⟩
        obtain ⟨o0, o1, o2, o3, o4, of5⟩ := hG.o
        obtain ⟨z0, z1, z2, z3, z4, zf⟩ := HZ.out.1
        clear hG
        go_wp2
        obtain ⟨s0, s1, s2, s3, s4⟩ := set5 z0 z1 z2 z3 z4 (.int .i64 D.x0) (.int .i64 D.y0) (.int .i64 D.x1) (.int .i64 D.y1) (.slice oo on om)
        refine bodyPost_ret (v := .agg #[.int .i64 D.x0, .int .i64 D.y0, .int .i64 D.x1, .int .i64 D.y1, .slice oo on om]) (by simp [results, Try.results78, go_sem, s0, s1, s2, s3, s4]) rfl ⟨⟨_, _, _, og, ooff, rfl, ?_⟩, ?_⟩
        · have hx := HG1.out.x
          rw [pos_last, List.take_of_length_le (by rw [img_len]; exact Nat.le_refl _)] at hx
          exact (hx.but (but_set5 _ _ _ _ _ _ _) HZ.out.2).mono (by omega)
        · exact below_set5 (HX.out.2.2.2.1.trans (HG1.out.low.mono (by omega))) (by omega) _ _ _ _ _
  · have HE : Hid (empB ⟨D.x0, D.y0, D.x1, D.y1⟩ = true) := he
    rw [orN_yes he]
    clear hV hBo hb ha he hG
    go_enter Try.func78, Try.ntmps78
    go_wp2_with (go_at_call 15; with_reducible refine Calls.mono (Rc.refEmpty_any D.x0 D.y0 D.x1 D.y1 _) ?_; rintro e w1 ⟨rfl, hb1⟩; rw [HE.out]; have HW1 := hid (And.intro (HW.out.2.2.1.below hb1) (And.intro (HW.out.2.2.2.1.below hb1) (Rc.via HW.out.2.2.2.2 hb1))); clear hb1 d0 d1 d2 d3 df; obtain ⟨z0, z1, z2, z3, z4, zf⟩ := HW1.out.1; obtain ⟨o0, o1, o2, o3, o4, of4⟩ := HW1.out.2.1)
    obtain ⟨s0, s1, s2, s3, s4⟩ := set5 z0 z1 z2 z3 z4 (.int .i64 0) (.int .i64 0) (.int .i64 0) (.int .i64 0) (.slice none 0 0)
    refine bodyPost_ret (v := .agg #[.int .i64 0, .int .i64 0, .int .i64 0, .int .i64 0, .slice none 0 0]) (by simp [results, Try.results78, go_sem, s0, s1, s2, s3, s4]) rfl ⟨⟨_, _, _, 0, 0, rfl, oz_nil 4 _ _ _⟩, ?_⟩
    exact below_set5 HW1.out.2.2 (by omega) _ _ _ _ _
end Go.Proofs.Ytfgfgfmimejpdaa
