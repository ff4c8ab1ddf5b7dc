/- The document's box of least or greatest values: the contract. -/
import Derived.Test.YtfkbdpbgeglgaaaAround
import Derived.Test.YtfkbdpbgeglgaaaNear
import Derived.Test.YtfkbdpbgeglgaaaMBoxH
namespace Go.Proofs.Ytfkbdpbgeglgaaa
open Num Go.RowKit
set_option linter.unusedVariables false
set_option linter.unusedSimpArgs false

theorem has5_box {w : World} {k : Nat} {B : R} {ao : Option Addr} {n c : Nat} (h : Has5 w k B ao n c) (a b c' d : Int) : Has5 ((((w.setCell ⟨k, 0, none⟩ (.int .i64 a)).setCell ⟨k, 1, none⟩ (.int .i64 b)).setCell ⟨k, 2, none⟩ (.int .i64 c')).setCell ⟨k, 3, none⟩ (.int .i64 d)) k ⟨a, b, c', d⟩ ao n c := by
  obtain ⟨s0, s1, s2, s3⟩ := Rc.set4 h.c0 h.c1 h.c2 h.c3 (.int .i64 a) (.int .i64 b) (.int .i64 c') (.int .i64 d)
  refine ⟨s0, s1, s2, s3, ?_, fun o => by rw [World.frozen?_setCell, World.frozen?_setCell, World.frozen?_setCell, World.frozen?_setCell]; exact h.fz o⟩
  rw [World.cell?_setCell_other _ _ _ _ (by simp), World.cell?_setCell_other _ _ _ _ (by simp), World.cell?_setCell_other _ _ _ _ (by simp), World.cell?_setCell_other _ _ _ _ (by simp)]
  exact h.c4
theorem Gs.next {W0 : World} {ko : Nat} {D : R} {l l' : List X} {oo oo' : Option Addr} {on om og ooff on' om' og' ooff' : Nat} {w w5 : World} (h : Gs W0 ko D l oo on om og ooff w) (hO : Ox (ko + 1) w5 oo' on' om' og' ooff' l') (hB : Below (ko + 1) w w5) (h5 : Has5 w5 ko D oo on om) :
    Gs W0 ko D l' oo' on' om' og' ooff' (((((w5.setCell ⟨ko, 0, none⟩ (.int .i64 D.x0)).setCell ⟨ko, 1, none⟩ (.int .i64 D.y0)).setCell ⟨ko, 2, none⟩ (.int .i64 D.x1)).setCell ⟨ko, 3, none⟩ (.int .i64 D.y1)).setCell ⟨ko, 4, none⟩ (.slice oo' on' om')) :=
  ⟨has5_set h5 _ _ _ _ _ _ _, hO.but (but_set5 _ _ _ _ _ _ _) (fun hc => by have := (hO.new hc).1; omega), below_set5 (h.low.trans (hB.mono (Nat.le_succ _))) (Nat.le_refl _) _ _ _ _ _⟩
theorem with4 (lo : Nat) (B : R) (oo : Option Addr) (on om og ooff : Nat) (l : List X) (a b c d : Int) (w : World) (h : Ox lo w oo on om og ooff l) (hlo : lo ≤ w.heap.size) (hn : on ≤ 1000000) :
    Calls Try.prog 27 #[.agg #[.int .i64 B.x0, .int .i64 B.y0, .int .i64 B.x1, .int .i64 B.y1, .slice oo on om], .agg #[.int .u8 a, .int .u8 b, .int .u8 c, .int .u8 d]] w fun e w' => RetA lo om og w w' e B (on + 1) (l ++ [⟨a, b, c, d⟩]) := with_any lo B oo on om og ooff l ⟨a, b, c, d⟩ w h hlo hn
/-- while one pixel is made -/
structure Ps (W0 : World) (ko : Nat) (D : R) (l : List X) (oo : Option Addr) (on om og ooff kp : Nat) (p : X) (w : World) : Prop where
  g : Gs W0 ko D l oo on om og ooff w
  p : P4 w kp p
  k : ko < kp
  ne : 0 < om → og ≠ kp
section
variable {W0 : World} {ko : Nat} {D : R} {l : List X} {oo : Option Addr} {on om og ooff kp : Nat} {p : X} {w w' : World}
theorem Ps.below (h : Ps W0 ko D l oo on om og ooff kp p w) (hb : Below w.heap.size w w') : Ps W0 ko D l oo on om og ooff kp p w' := ⟨h.g.below hb, h.p.below hb, h.k, h.ne⟩
theorem Ps.set (h : Ps W0 ko D l oo on om og ooff kp p w) {i : Nat} (hi : i < 4) (v : Int) : Ps W0 ko D l oo on om og ooff kp (putC i v p) (w.setCell ⟨kp, i, none⟩ (.int .u8 v)) := ⟨h.g.but (but_cell w kp i _) h.k h.ne, h.p.set hi v, h.k, h.ne⟩
end
/-- the first i values told -/
def Told (q p : X) (i : Nat) : Prop := ∀ j, j < i → chn j p = chn j q
theorem told_next {q p : X} {i : Nat} (h : Told q p i) (hi : i < 4) : Told q (putC i (chn i q) p) (i + 1) := by
  intro j hj
  by_cases e : j = i
  · subst e; exact putC_same hi _ _
  · rw [putC_other hi (by omega) e]; exact h j (by omega)
theorem told_all {q p : X} (h : Told q p 4) : p = q := X_ext (h 0 (by omega)) (h 1 (by omega)) (h 2 (by omega)) (h 3 (by omega))
theorem chn_mor (t : Bool) (g : Int → Int → X) (rx ry : Nat) (x y : Int) {i : Nat} (hi : i < 4) : mor1 t (fun u v => chn i (g u v)) rx ry x y = chn i (morX t g rx ry x y) := by
  obtain rfl | rfl | rfl | rfl := lt4 hi <;> rfl

set_option maxRecDepth 100000 in
set_option maxHeartbeats 8000000 in
theorem refBox_any (B : R) (ao : Option Addr) (n m g off : Nat) (f : Int → Int → X) (D : R) (rx ry : Nat) (t : Bool) (w : World) (hBo : Ok B) (hn : n ≤ 5000) (hV : Vx w ao n m g off (img B f)) (hD : Half D) (ha : area D ≤ 5000) (hrx : rx ≤ 255) (hry : ry ≤ 255) :
    Calls Try.prog 13 #[.agg #[.int .i64 B.x0, .int .i64 B.y0, .int .i64 B.x1, .int .i64 B.y1, .slice ao n m], .agg #[.int .i64 D.x0, .int .i64 D.y0, .int .i64 D.x1, .int .i64 D.y1], .int .i64 (rx : Int), .int .i64 (ry : Int), .bool (!t)] w fun e w' => RetB w.heap.size w' e (orN D) (img (orN D) (morX t (atX B f) rx ry)) ∧ Below w.heap.size w w' := by
  have HW : Hid (Has5 ((((w.alloc (.cells #[.int .i64 B.x0, .int .i64 B.y0, .int .i64 B.x1, .int .i64 B.y1, .slice ao n m] 26)).alloc (.cells #[.int .i64 D.x0, .int .i64 D.y0, .int .i64 D.x1, .int .i64 D.y1] 23)).alloc (.cells #[.int .i64 0, .int .i64 0, .int .i64 0, .int .i64 0, .slice none 0 0] 26)).alloc (.cells #[.int .i64 0, .int .i64 0, .int .i64 0, .int .i64 0, .slice none 0 0] 26)) w.heap.size B ao n m ∧ Rc.Has4 ((((w.alloc (.cells #[.int .i64 B.x0, .int .i64 B.y0, .int .i64 B.x1, .int .i64 B.y1, .slice ao n m] 26)).alloc (.cells #[.int .i64 D.x0, .int .i64 D.y0, .int .i64 D.x1, .int .i64 D.y1] 23)).alloc (.cells #[.int .i64 0, .int .i64 0, .int .i64 0, .int .i64 0, .slice none 0 0] 26)).alloc (.cells #[.int .i64 0, .int .i64 0, .int .i64 0, .int .i64 0, .slice none 0 0] 26)) (w.heap.size + 1) (.int .i64 D.x0) (.int .i64 D.y0) (.int .i64 D.x1) (.int .i64 D.y1) ∧ Has5 ((((w.alloc (.cells #[.int .i64 B.x0, .int .i64 B.y0, .int .i64 B.x1, .int .i64 B.y1, .slice ao n m] 26)).alloc (.cells #[.int .i64 D.x0, .int .i64 D.y0, .int .i64 D.x1, .int .i64 D.y1] 23)).alloc (.cells #[.int .i64 0, .int .i64 0, .int .i64 0, .int .i64 0, .slice none 0 0] 26)).alloc (.cells #[.int .i64 0, .int .i64 0, .int .i64 0, .int .i64 0, .slice none 0 0] 26)) (w.heap.size + 1 + 1) ⟨0, 0, 0, 0⟩ none 0 0 ∧ Has5 ((((w.alloc (.cells #[.int .i64 B.x0, .int .i64 B.y0, .int .i64 B.x1, .int .i64 B.y1, .slice ao n m] 26)).alloc (.cells #[.int .i64 D.x0, .int .i64 D.y0, .int .i64 D.x1, .int .i64 D.y1] 23)).alloc (.cells #[.int .i64 0, .int .i64 0, .int .i64 0, .int .i64 0, .slice none 0 0] 26)).alloc (.cells #[.int .i64 0, .int .i64 0, .int .i64 0, .int .i64 0, .slice none 0 0] 26)) (w.heap.size + 1 + 1 + 1) ⟨0, 0, 0, 0⟩ none 0 0 ∧ Below w.heap.size w ((((w.alloc (.cells #[.int .i64 B.x0, .int .i64 B.y0, .int .i64 B.x1, .int .i64 B.y1, .slice ao n m] 26)).alloc (.cells #[.int .i64 D.x0, .int .i64 D.y0, .int .i64 D.x1, .int .i64 D.y1] 23)).alloc (.cells #[.int .i64 0, .int .i64 0, .int .i64 0, .int .i64 0, .slice none 0 0] 26)).alloc (.cells #[.int .i64 0, .int .i64 0, .int .i64 0, .int .i64 0, .slice none 0 0] 26))) :=
    ⟨(((Has5.new rfl _ _ _ _ _ _ _ _).alloc _).alloc _).alloc _, ((Rc.Has4.new (by simp) _ _ _ _ _).alloc _).alloc _, (Has5.new (by simp) _ _ _ _ _ _ _ _).alloc _, Has5.new (by simp) _ _ _ _ _ _ _ _, ((((Below.refl _ _).alloc (Nat.le_refl _) _).alloc (by simp) _).alloc (by simp; omega) _).alloc (by simp; omega) _⟩
  have HH := hid (And.intro hV hBo)
  obtain ⟨G, hG⟩ : ∃ G, G = morX t (atX B f) rx ry := ⟨_, rfl⟩
  have HGG : Hid (∀ x y i, i < 4 → mor1 t (fun u v => chn i (atX B f u v)) rx ry x y = chn i (G x y)) := fun x y i hi => by rw [hG]; exact chn_mor _ _ _ _ _ _ hi
  rw [← hG]
  obtain ⟨d0, d1, d2, d3, df⟩ := HW.out.2.1
  have hDo := hD.ok
  rcases he : empB D with _ | _
  · obtain ⟨x01, y01⟩ := of_some he
    obtain ⟨-, s5, -⟩ := size_of hDo he ha
    rw [orN_no he]
    have HE : Hid (empB ⟨D.x0, D.y0, D.x1, D.y1⟩ = false) := he
    obtain ⟨⟨i0, i1⟩, ⟨i2, i3⟩, ⟨i4, i5⟩, i6, i7⟩ := hD
    clear hV hBo ha he hG hDo
    go_enter Try.func13, Try.ntmps13
    go_wp2_with (go_at_call 25; with_reducible refine Calls.mono (Rc.refEmpty_any D.x0 D.y0 D.x1 D.y1 _) ?_; rintro e w1 ⟨rfl, hb1⟩; rw [HE.out]; have HW1 := hid (And.intro (HW.out.1.below hb1) (And.intro (HW.out.2.1.below hb1) (And.intro (HW.out.2.2.1.below hb1) (And.intro (HW.out.2.2.2.1.below hb1) (Rc.via HW.out.2.2.2.2 hb1))))); clear hb1 d0 d1 d2 d3 df; obtain ⟨d0, d1, d2, d3, df⟩ := HW1.out.2.1; obtain ⟨o0, o1, o2, o3, o4, of4⟩ := HW1.out.2.2.2.1)
    have hbs := but_set4 w1 (w.heap.size + 1 + 1 + 1) (.int .i64 D.x0) (.int .i64 D.y0) (.int .i64 D.x1) (.int .i64 D.y1)
    have HX : Hid (Has5 ((((w1.setCell ⟨w.heap.size + 1 + 1 + 1, 0, none⟩ (.int .i64 D.x0)).setCell ⟨w.heap.size + 1 + 1 + 1, 1, none⟩ (.int .i64 D.y0)).setCell ⟨w.heap.size + 1 + 1 + 1, 2, none⟩ (.int .i64 D.x1)).setCell ⟨w.heap.size + 1 + 1 + 1, 3, none⟩ (.int .i64 D.y1)) w.heap.size B ao n m ∧ Rc.Has4 ((((w1.setCell ⟨w.heap.size + 1 + 1 + 1, 0, none⟩ (.int .i64 D.x0)).setCell ⟨w.heap.size + 1 + 1 + 1, 1, none⟩ (.int .i64 D.y0)).setCell ⟨w.heap.size + 1 + 1 + 1, 2, none⟩ (.int .i64 D.x1)).setCell ⟨w.heap.size + 1 + 1 + 1, 3, none⟩ (.int .i64 D.y1)) (w.heap.size + 1) (.int .i64 D.x0) (.int .i64 D.y0) (.int .i64 D.x1) (.int .i64 D.y1) ∧ Has5 ((((w1.setCell ⟨w.heap.size + 1 + 1 + 1, 0, none⟩ (.int .i64 D.x0)).setCell ⟨w.heap.size + 1 + 1 + 1, 1, none⟩ (.int .i64 D.y0)).setCell ⟨w.heap.size + 1 + 1 + 1, 2, none⟩ (.int .i64 D.x1)).setCell ⟨w.heap.size + 1 + 1 + 1, 3, none⟩ (.int .i64 D.y1)) (w.heap.size + 1 + 1) ⟨0, 0, 0, 0⟩ none 0 0 ∧ Below w.heap.size w ((((w1.setCell ⟨w.heap.size + 1 + 1 + 1, 0, none⟩ (.int .i64 D.x0)).setCell ⟨w.heap.size + 1 + 1 + 1, 1, none⟩ (.int .i64 D.y0)).setCell ⟨w.heap.size + 1 + 1 + 1, 2, none⟩ (.int .i64 D.x1)).setCell ⟨w.heap.size + 1 + 1 + 1, 3, none⟩ (.int .i64 D.y1)) ∧ Gs ((((w1.setCell ⟨w.heap.size + 1 + 1 + 1, 0, none⟩ (.int .i64 D.x0)).setCell ⟨w.heap.size + 1 + 1 + 1, 1, none⟩ (.int .i64 D.y0)).setCell ⟨w.heap.size + 1 + 1 + 1, 2, none⟩ (.int .i64 D.x1)).setCell ⟨w.heap.size + 1 + 1 + 1, 3, none⟩ (.int .i64 D.y1)) (w.heap.size + 1 + 1 + 1) D [] none 0 0 0 0 ((((w1.setCell ⟨w.heap.size + 1 + 1 + 1, 0, none⟩ (.int .i64 D.x0)).setCell ⟨w.heap.size + 1 + 1 + 1, 1, none⟩ (.int .i64 D.y0)).setCell ⟨w.heap.size + 1 + 1 + 1, 2, none⟩ (.int .i64 D.x1)).setCell ⟨w.heap.size + 1 + 1 + 1, 3, none⟩ (.int .i64 D.y1))) :=
      ⟨HW1.out.1.but hbs (by omega), has4_but HW1.out.2.1 hbs (by omega), HW1.out.2.2.1.but hbs (by omega), HW1.out.2.2.2.2.trans (hbs.low (by omega) HW1.out.2.2.2.2.size), ⟨has5_box HW1.out.2.2.2.1 _ _ _ _, oz_nil _ _ _ _, Below.refl _ _⟩⟩
    clear hbs d0 d1 d2 d3 df o0 o1 o2 o3 o4 of4 HW1
    generalize ((((w1.setCell ⟨w.heap.size + 1 + 1 + 1, 0, none⟩ (.int .i64 D.x0)).setCell ⟨w.heap.size + 1 + 1 + 1, 1, none⟩ (.int .i64 D.y0)).setCell ⟨w.heap.size + 1 + 1 + 1, 2, none⟩ (.int .i64 D.x1)).setCell ⟨w.heap.size + 1 + 1 + 1, 3, none⟩ (.int .i64 D.y1)) = W0 at HX ⊢
    go_loopg [12] (D.y1 - D.y0).toNat (fun gh v12 wr => ∃ y oo on om og ooff, D.y0 ≤ y ∧ y ≤ D.y1 ∧ gh = (D.y1 - y).toNat ∧ v12 = .int .i64 y ∧ Gs W0 (w.heap.size + 1 + 1 + 1) D ((img D G).take (posN D D.x0 y)) oo on om og ooff wr)
    case atStart => exact ⟨D.y0, none, 0, 0, 0, 0, Int.le_refl _, by omega, rfl, rfl, by rw [pos_first]; exact HX.out.2.2.2.2⟩
    case round =>
      obtain ⟨y, oo, on, om, og, ooff, hy0, hy1, rfl, rfl, hG⟩ := hrel
      have HG1 := hid hG
      obtain ⟨d0, d1, d2, d3, df⟩ := has4_low HX.out.2.1 hG.low (by omega)
      by_cases hlt : y < D.y1
      · clear hG
        go_wp2
        go_loopg [13] (D.x1 - D.x0).toNat (fun gh v13 wr => ∃ x oo on om og ooff, D.x0 ≤ x ∧ x ≤ D.x1 ∧ gh = (D.x1 - x).toNat ∧ v13 = .int .i64 x ∧ Gs W0 (w.heap.size + 1 + 1 + 1) D ((img D G).take (posN D x y)) oo on om og ooff wr)
        case atStart => exact ⟨D.x0, _, _, _, _, _, Int.le_refl _, by omega, rfl, rfl, HG1.out⟩
        case round =>
          clear HG1 d0 d1 d2 d3 df oo on om og ooff
          obtain ⟨x, oo, on, om, og, ooff, hx0, hx1, rfl, rfl, hG⟩ := hrel
          have HG1 := hid hG
          obtain ⟨d0, d1, d2, d3, df⟩ := has4_low HX.out.2.1 hG.low (by omega)
          by_cases hltx : x < D.x1
          · have hon : on ≤ 1000000 := by have h1 := vx_len hG.x.v; have h2 := take_len D G (posN D x y); omega
            have hl5 : (w.heap.size + 1 + 1 + 1) < wr.heap.size := hG.lt
            have HA0 : Hid (Ps W0 (w.heap.size + 1 + 1 + 1) D ((img D G).take (posN D x y)) oo on om og ooff wr.heap.size noX (wr.alloc (.cells #[.int .u8 0, .int .u8 0, .int .u8 0, .int .u8 0] 33))) := by
              have hn4 := Rc.Has4.new (W := wr) (k := wr.heap.size) rfl (.int .u8 0) (.int .u8 0) (.int .u8 0) (.int .u8 0) 33
              refine ⟨hG.below ((Below.refl _ _).alloc (Nat.le_refl _) _), ⟨fun j hj => ?_, hn4.fz⟩, hl5, fun hc => by have := (hG.x.new hc).2; omega⟩
              obtain rfl | rfl | rfl | rfl := lt4 hj
              · exact hn4.c0
              · exact hn4.c1
              · exact hn4.c2
              · exact hn4.c3
            clear hG
            go_wp2
            generalize wr.alloc (.cells #[.int .u8 0, .int .u8 0, .int .u8 0, .int .u8 0] 33) = wr1 at HA0 ⊢
            generalize wr.heap.size = kp at HA0 hl5 ⊢
            go_loopg [15] 4 (fun gh v15 wr => ∃ (i : Nat) (p : X), i ≤ 4 ∧ gh = 4 - i ∧ v15 = .int .i64 (i : Int) ∧ Told (G x y) p i ∧ Ps W0 (w.heap.size + 1 + 1 + 1) D ((img D G).take (posN D x y)) oo on om og ooff kp p wr)
            case atStart => exact ⟨0, noX, Nat.zero_le _, rfl, rfl, fun j hj => by omega, HA0.out⟩
            case round =>
              clear HA0 d0 d1 d2 d3 df HG1
              obtain ⟨i, p, hi4, rfl, rfl, htold, hA⟩ := hrel
              have HT := hid htold
              have HA := hid hA
              clear htold
              by_cases hil : i < 4
              · have hiz : (i : Int) < 4 := by omega
                obtain ⟨q0, q1, q2, q3, q4, qf⟩ := has5_low HX.out.1 hA.g.low (by omega)
                have HV : Hid (Vx wr ao n m g off (img B f)) := HH.out.1.below (HX.out.2.2.2.1.trans (hA.g.low.mono (by omega)))
                clear hA
                go_wp2_with (go_at_call 26; with_reducible refine Calls.mono (around_any B ao n m g off f x y rx ry i t _ HH.out.2 (by omega) HV.out (by omega) (by omega) hrx hry hil) ?_; rintro e w2 ⟨rfl, hb2⟩; rw [HGG.out x y i hil]; have HA2 := hid (HA.out.below hb2); clear hb2; have hc2 := HA2.out.p.c i hil; have hf2 := HA2.out.p.fz)
                go_roundg (4 - (i + 1))
                case measure => omega
                case rel => exact ⟨i + 1, _, by omega, rfl, by simp, told_next HT.out hil, HA2.out.set hil _⟩
              · obtain rfl : i = 4 := by omega
                obtain rfl : p = G x y := told_all HT.out
                have c0 : wr.cell? ⟨kp, 0, none⟩ = some (.int .u8 (G x y).c0) := hA.p.c 0 (by omega)
                have c1 : wr.cell? ⟨kp, 1, none⟩ = some (.int .u8 (G x y).c1) := hA.p.c 1 (by omega)
                have c2 : wr.cell? ⟨kp, 2, none⟩ = some (.int .u8 (G x y).c2) := hA.p.c 2 (by omega)
                have c3 : wr.cell? ⟨kp, 3, none⟩ = some (.int .u8 (G x y).c3) := hA.p.c 3 (by omega)
                obtain ⟨o0, o1, o2, o3, o4, of4⟩ := hA.g.o
                have hlo : (w.heap.size + 1 + 1 + 1) + 1 ≤ wr.heap.size := hA.g.lt
                have HBX : Hid (hasB D x y = true) := decide_eq_true (by omega)
                clear hA
                go_wp2_with (go_at_call 27; with_reducible refine Calls.mono (with4 ((w.heap.size + 1 + 1 + 1) + 1) D oo on om og ooff ((img D G).take (posN D x y)) (G x y).c0 (G x y).c1 (G x y).c2 (G x y).c3 _ HA.out.g.x hlo hon) ?_; rintro e w5 hr; obtain ⟨oo', om', og', ooff', rfl, hO5, hB5, hK5⟩ := retA hr; have H5 := hid (HA.out.g.o.block (hB5.block (w.heap.size + 1 + 1 + 1) (Nat.lt_succ_self _))); have HG5 := hid (And.intro hO5 hB5); clear hr hO5 hB5 hK5; obtain ⟨f0, f1, f2, f3, f4, ff⟩ := H5.out)
                go_roundg (D.x1 - (x + 1)).toNat
                case measure => omega
                case rel =>
                  refine ⟨x + 1, oo', on + 1, om', og', ooff', by omega, by omega, rfl, rfl, ?_⟩
                  have h9 := HA.out.g.next HG5.out.1 HG5.out.2 H5.out
                  rw [show (⟨(G x y).c0, (G x y).c1, (G x y).c2, (G x y).c3⟩ : X) = G x y from rfl, take_more G HBX.out, ← pos_next D hx0] at h9
                  exact h9
          · obtain rfl : D.x1 = x := by omega
            clear hG
            go_wp2
            go_roundg (D.y1 - (y + 1)).toNat
            case measure => omega
            case rel => exact ⟨y + 1, oo, on, om, og, ooff, by omega, by omega, rfl, rfl, by rw [← pos_row D hy0 x01]; exact HG1.out⟩
      · obtain rfl : D.y1 = y := by omega
        obtain ⟨o0, o1, o2, o3, o4, of4⟩ := hG.o
        obtain ⟨z0, z1, z2, z3, z4, zf⟩ := has5_low HX.out.2.2.1 hG.low (by omega)
        clear hG
        go_wp2
        obtain ⟨s0, s1, s2, s3, s4⟩ := set5 z0 z1 z2 z3 z4 (.int .i64 D.x0) (.int .i64 D.y0) (.int .i64 D.x1) (.int .i64 D.y1) (.slice oo on om)
        refine bodyPost_ret (v := .agg #[.int .i64 D.x0, .int .i64 D.y0, .int .i64 D.x1, .int .i64 D.y1, .slice oo on om]) (by simp [results, Try.results13, go_sem, s0, s1, s2, s3, s4]) rfl ⟨⟨_, _, _, og, ooff, rfl, ?_⟩, ?_⟩
        · have hx := HG1.out.x
          rw [pos_last, List.take_of_length_le (by rw [img_len]; exact Nat.le_refl _)] at hx
          exact (hx.but (but_set5 _ _ _ _ _ _ _) (fun hc => by have := (hx.new hc).1; omega)).mono (by omega)
        · exact below_set5 (HX.out.2.2.2.1.trans (HG1.out.low.mono (by omega))) (by omega) _ _ _ _ _
  · rw [orN_yes he]
    have HE : Hid (empB ⟨D.x0, D.y0, D.x1, D.y1⟩ = true) := he
    clear hV hBo ha he hG hDo
    go_enter Try.func13, Try.ntmps13
    go_wp2_with (go_at_call 25; with_reducible refine Calls.mono (Rc.refEmpty_any D.x0 D.y0 D.x1 D.y1 _) ?_; rintro e w1 ⟨rfl, hb1⟩; rw [HE.out]; have HW1 := hid (And.intro (HW.out.2.2.1.below hb1) (And.intro (HW.out.2.2.2.1.below hb1) (Rc.via HW.out.2.2.2.2 hb1))); clear hb1 d0 d1 d2 d3 df; obtain ⟨o0, o1, o2, o3, o4, of4⟩ := HW1.out.2.1; obtain ⟨z0, z1, z2, z3, z4, zf⟩ := HW1.out.1)
    obtain ⟨s0, s1, s2, s3, s4⟩ := set5 z0 z1 z2 z3 z4 (.int .i64 0) (.int .i64 0) (.int .i64 0) (.int .i64 0) (.slice none 0 0)
    refine bodyPost_ret (v := .agg #[.int .i64 0, .int .i64 0, .int .i64 0, .int .i64 0, .slice none 0 0]) (by simp [results, Try.results13, go_sem, s0, s1, s2, s3, s4]) rfl ⟨⟨_, _, _, 0, 0, rfl, oz_nil _ _ _ _⟩, ?_⟩
    exact below_set5 HW1.out.2.2 (by omega) _ _ _ _ _
end Go.Proofs.Ytfkbdpbgeglgaaa
