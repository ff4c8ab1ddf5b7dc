/- The document's Fill and Copy: contracts. -/
import Derived.Test.YtfgfgfmimejpdaaGrows
import Derived.Deep.LoopGhost
import Derived.Deep.Light
namespace Go.Proofs.Ytfgfgfmimejpdaa
open Num Go.RowKit
set_option linter.unusedVariables false
set_option linter.unusedSimpArgs false
attribute [local go_sem ↓] run_app
attribute [local go_sem] lenV_slice

theorem edges_le {B : R} (h : B = nil ∨ empB B = false) : B.x0 ≤ B.x1 ∧ B.y0 ≤ B.y1 ∧ (B.y0 < B.y1 → B.x0 < B.x1) := by
  rcases h with h | h
  · subst h; decide
  · have := of_some h
    omega
theorem take_len (B : R) (G : Int → Int → X) (k : Nat) : ((img B G).take k).length ≤ wid B * hei B := by
  rw [List.length_take, img_len]; omega

set_option maxRecDepth 100000 in
set_option maxHeartbeats 4000000 in
theorem refCopy_any (B : R) (ao : Option Addr) (n m g off : Nat) (f : Int → Int → X) (a b c d : Int) (F : R) (fo : Option Addr) (fn fm fg foff : Nat) (E : Int → Int → X) (dx dy : Int) (w : World) (ho : Ok B) (hBn : B = nil ∨ empB B = false) (hn : n ≤ 5000) (h : Vx w ao n m g off (img B f)) (hFo : Ok F) (hfn : fn ≤ 5000) (hF : Vx w fo fn fm fg foff (img F E)) (hdx : -4398046511104 ≤ dx ∧ dx ≤ 4398046511104) (hdy : -4398046511104 ≤ dy ∧ dy ≤ 4398046511104) :
    Calls Try.prog 48 #[.agg #[.int .i64 B.x0, .int .i64 B.y0, .int .i64 B.x1, .int .i64 B.y1, .slice ao n m], .agg #[.int .i64 F.x0, .int .i64 F.y0, .int .i64 F.x1, .int .i64 F.y1, .slice fo fn fm], .agg #[.int .i64 a, .int .i64 b, .int .i64 c, .int .i64 d], .int .i64 dx, .int .i64 dy] w fun e w' => RetB w.heap.size w' e B (img B (copyG ⟨a, b, c, d⟩ (atX F E) dx dy f)) ∧ Below w.heap.size w w' := by
  have hnn := vx_len h
  rw [img_len] at hnn
  obtain ⟨hxx, hyy, hxy⟩ := edges_le hBn
  have HH := hid (And.intro h (And.intro ho hnn))
  have HF := hid (And.intro hF hFo)
  obtain ⟨dx0, dx1⟩ := hdx
  obtain ⟨dy0, dy1⟩ := hdy
  obtain ⟨⟨a0, a1⟩, ⟨b0, b1⟩, ⟨c0, c1⟩, d0, d1⟩ := ho
  have HW : Hid (Has5 (((((w.alloc (.cells #[.int .i64 B.x0, .int .i64 B.y0, .int .i64 B.x1, .int .i64 B.y1, .slice ao n m] 26)).alloc (.cells #[.int .i64 F.x0, .int .i64 F.y0, .int .i64 F.x1, .int .i64 F.y1, .slice fo fn fm] 26)).alloc (.cells #[.int .i64 a, .int .i64 b, .int .i64 c, .int .i64 d] 23)).alloc (.cells #[.int .i64 0, .int .i64 0, .int .i64 0, .int .i64 0, .slice none 0 0] 26)).alloc (.cells #[.int .i64 B.x0, .int .i64 B.y0, .int .i64 B.x1, .int .i64 B.y1, .slice none 0 0] 26)) w.heap.size B ao n m ∧ Has5 (((((w.alloc (.cells #[.int .i64 B.x0, .int .i64 B.y0, .int .i64 B.x1, .int .i64 B.y1, .slice ao n m] 26)).alloc (.cells #[.int .i64 F.x0, .int .i64 F.y0, .int .i64 F.x1, .int .i64 F.y1, .slice fo fn fm] 26)).alloc (.cells #[.int .i64 a, .int .i64 b, .int .i64 c, .int .i64 d] 23)).alloc (.cells #[.int .i64 0, .int .i64 0, .int .i64 0, .int .i64 0, .slice none 0 0] 26)).alloc (.cells #[.int .i64 B.x0, .int .i64 B.y0, .int .i64 B.x1, .int .i64 B.y1, .slice none 0 0] 26)) (w.heap.size + 1) F fo fn fm ∧ Rc.Has4 (((((w.alloc (.cells #[.int .i64 B.x0, .int .i64 B.y0, .int .i64 B.x1, .int .i64 B.y1, .slice ao n m] 26)).alloc (.cells #[.int .i64 F.x0, .int .i64 F.y0, .int .i64 F.x1, .int .i64 F.y1, .slice fo fn fm] 26)).alloc (.cells #[.int .i64 a, .int .i64 b, .int .i64 c, .int .i64 d] 23)).alloc (.cells #[.int .i64 0, .int .i64 0, .int .i64 0, .int .i64 0, .slice none 0 0] 26)).alloc (.cells #[.int .i64 B.x0, .int .i64 B.y0, .int .i64 B.x1, .int .i64 B.y1, .slice none 0 0] 26)) (w.heap.size + 1 + 1) (.int .i64 a) (.int .i64 b) (.int .i64 c) (.int .i64 d) ∧ Has5 (((((w.alloc (.cells #[.int .i64 B.x0, .int .i64 B.y0, .int .i64 B.x1, .int .i64 B.y1, .slice ao n m] 26)).alloc (.cells #[.int .i64 F.x0, .int .i64 F.y0, .int .i64 F.x1, .int .i64 F.y1, .slice fo fn fm] 26)).alloc (.cells #[.int .i64 a, .int .i64 b, .int .i64 c, .int .i64 d] 23)).alloc (.cells #[.int .i64 0, .int .i64 0, .int .i64 0, .int .i64 0, .slice none 0 0] 26)).alloc (.cells #[.int .i64 B.x0, .int .i64 B.y0, .int .i64 B.x1, .int .i64 B.y1, .slice none 0 0] 26)) (w.heap.size + 1 + 1 + 1) ⟨0, 0, 0, 0⟩ none 0 0 ∧ Has5 (((((w.alloc (.cells #[.int .i64 B.x0, .int .i64 B.y0, .int .i64 B.x1, .int .i64 B.y1, .slice ao n m] 26)).alloc (.cells #[.int .i64 F.x0, .int .i64 F.y0, .int .i64 F.x1, .int .i64 F.y1, .slice fo fn fm] 26)).alloc (.cells #[.int .i64 a, .int .i64 b, .int .i64 c, .int .i64 d] 23)).alloc (.cells #[.int .i64 0, .int .i64 0, .int .i64 0, .int .i64 0, .slice none 0 0] 26)).alloc (.cells #[.int .i64 B.x0, .int .i64 B.y0, .int .i64 B.x1, .int .i64 B.y1, .slice none 0 0] 26)) (w.heap.size + 1 + 1 + 1 + 1) B none 0 0 ∧ Below w.heap.size w (((((w.alloc (.cells #[.int .i64 B.x0, .int .i64 B.y0, .int .i64 B.x1, .int .i64 B.y1, .slice ao n m] 26)).alloc (.cells #[.int .i64 F.x0, .int .i64 F.y0, .int .i64 F.x1, .int .i64 F.y1, .slice fo fn fm] 26)).alloc (.cells #[.int .i64 a, .int .i64 b, .int .i64 c, .int .i64 d] 23)).alloc (.cells #[.int .i64 0, .int .i64 0, .int .i64 0, .int .i64 0, .slice none 0 0] 26)).alloc (.cells #[.int .i64 B.x0, .int .i64 B.y0, .int .i64 B.x1, .int .i64 B.y1, .slice none 0 0] 26)) ∧ True) := by
    refine ⟨((((Has5.new rfl _ _ _ _ _ _ _ _).alloc _).alloc _).alloc _).alloc _, (((Has5.new (by simp) _ _ _ _ _ _ _ _).alloc _).alloc _).alloc _, ((Rc.Has4.new (by simp) _ _ _ _ _).alloc _).alloc _, (Has5.new (by simp) _ _ _ _ _ _ _ _).alloc _, Has5.new (by simp) _ _ _ _ _ _ _ _, ?_, trivial⟩
    exact (((((Below.refl _ _).alloc (Nat.le_refl _) _).alloc (by simp) _).alloc (by simp; omega) _).alloc (by simp; omega) _).alloc (by simp; omega) _
  clear h hBn hF hFo
  go_enter Try.func48, Try.ntmps48
  go_wp2
  generalize (((((w.alloc (.cells #[.int .i64 B.x0, .int .i64 B.y0, .int .i64 B.x1, .int .i64 B.y1, .slice ao n m] 26)).alloc (.cells #[.int .i64 F.x0, .int .i64 F.y0, .int .i64 F.x1, .int .i64 F.y1, .slice fo fn fm] 26)).alloc (.cells #[.int .i64 a, .int .i64 b, .int .i64 c, .int .i64 d] 23)).alloc (.cells #[.int .i64 0, .int .i64 0, .int .i64 0, .int .i64 0, .slice none 0 0] 26)).alloc (.cells #[.int .i64 B.x0, .int .i64 B.y0, .int .i64 B.x1, .int .i64 B.y1, .slice none 0 0] 26)) = W0 at HW ⊢
  have HG0 : Hid (Gs W0 (w.heap.size + 1 + 1 + 1 + 1) B [] none 0 0 0 0 W0) := ⟨HW.out.2.2.2.2.1, oz_nil _ _ _ _, Below.refl _ _⟩
  go_loopg [12] (B.y1 - B.y0).toNat (fun gh v8 wr => ∃ y oo on om og ooff, B.y0 ≤ y ∧ y ≤ B.y1 ∧ gh = (B.y1 - y).toNat ∧ v8 = .int .i64 y ∧ Gs W0 (w.heap.size + 1 + 1 + 1 + 1) B ((img B (copyG ⟨a, b, c, d⟩ (atX F E) dx dy f)).take (posN B B.x0 y)) oo on om og ooff wr)
  case atStart => exact ⟨B.y0, none, 0, 0, 0, 0, Int.le_refl _, hyy, rfl, rfl, by rw [pos_first]; exact HG0.out⟩
  case round =>
        clear HG0
        obtain ⟨y, oo, on, om, og, ooff, hy0, hy1, rfl, rfl, hG⟩ := hrel
        have HG := hid hG
        by_cases hlt : y < B.y1
        · have hx1 : B.x0 < B.x1 := hxy (by omega)
          obtain ⟨q0, q1, q2, q3, q4, qf⟩ := has5_low HW.out.1 hG.low (by omega)
          clear hG
          go_wp2
          go_loopg [13] (B.x1 - B.x0).toNat (fun gh v9 wr => ∃ x oo on om og ooff, B.x0 ≤ x ∧ x ≤ B.x1 ∧ gh = (B.x1 - x).toNat ∧ v9 = .int .i64 x ∧ Gs W0 (w.heap.size + 1 + 1 + 1 + 1) B ((img B (copyG ⟨a, b, c, d⟩ (atX F E) dx dy f)).take (posN B x y)) oo on om og ooff wr)
          case atStart => exact ⟨B.x0, _, _, _, _, _, Int.le_refl _, hxx, rfl, rfl, HG.out⟩
          case round =>
            clear HG q0 q1 q2 q3 q4 qf
            obtain ⟨x, oo, on, om, og, ooff, hx0, hxl, rfl, rfl, hG⟩ := hrel
            have HG := hid hG
            obtain ⟨q0, q1, q2, q3, q4, qf⟩ := has5_low HW.out.1 hG.low (by omega)
            by_cases hltx : x < B.x1
            · have hin : hasB B x y = true := decide_eq_true (by omega)
              have hl5 : w.heap.size + 1 + 1 + 1 + 1 < wr.heap.size := hG.lt
              have HV : Hid (Vx wr ao n m g off (img B f)) := HH.out.1.below (HW.out.2.2.2.2.2.1.trans (hG.low.mono (by omega)))
              have HA : Hid (atX B f x y = f x y) := by show atX B f x y = f x y; unfold atX; rw [if_pos hin]
              have HOG : Hid (0 < om → og < wr.heap.size) := fun hc => (hG.x.new hc).2
              have hon : on ≤ 1000000 := by have h1 := vx_len hG.x.v; have h2 := take_len B (copyG ⟨a, b, c, d⟩ (atX F E) dx dy f) (posN B x y); have := HH.out.2.2; omega
              clear hG
              rcases hr : hasB ⟨a, b, c, d⟩ x y with _ | _
              · have HR := hid hr
                have HT := hid (take_more (copyG ⟨a, b, c, d⟩ (atX F E) dx dy f) hin)
                clear hr hin
                go_wp2_with (first
                  | (go_at_call 32; with_reducible refine Calls.mono (refAt_any B ao n m g off f x y _ HH.out.2.1 (by omega) (by omega) (by omega) HV.out) ?_; rintro e w1 ⟨rfl, hb1⟩; rw [HA.out]; have HG1 := hid (HG.out.below hb1); have hz1 := hb1.size; have HR1 := hid ((has4_low HW.out.2.2.1 HG1.out.low (by omega)).alloc (.cells #[.int .u8 (f x y).c0, .int .u8 (f x y).c1, .int .u8 (f x y).c2, .int .u8 (f x y).c3] 28)); obtain ⟨r0, r1, r2, r3, rf⟩ := HR1.out; clear hb1)
                  | (go_at_call 31; with_reducible refine Calls.mono (refHas_any a b c d x y _) ?_; rintro e w2 ⟨rfl, hb2⟩; rw [HR.out]; have HD := hid ((Rc.Has4.new (W := w1) (k := w1.heap.size) rfl (.int .u8 (f x y).c0) (.int .u8 (f x y).c1) (.int .u8 (f x y).c2) (.int .u8 (f x y).c3) 28).below hb2); have HG2 := hid ((HG1.out.below ((Below.refl _ _).alloc (Nat.le_refl _) _)).below hb2); clear hb2 r0 r1 r2 r3 rf; obtain ⟨d0, d1, d2, d3, df⟩ := HD.out; obtain ⟨o0, o1, o2, o3, o4, of5⟩ := HG2.out.o; obtain ⟨b', off', hF, hc4, hz4, hG3⟩ := HG2.out.app hon (f x y) _ rfl _ rfl; have HG3 := hid hG3; clear hG3))
                go_roundg (B.x1 - (x + 1)).toNat
                case measure => omega
                case rel => exact ⟨x + 1, _, _, _, _, _, by omega, by omega, rfl, rfl, by rw [pos_next B hx0, ← HT.out, show copyG ⟨a, b, c, d⟩ (atX F E) dx dy f x y = f x y by unfold copyG; rw [if_neg (by rw [HR.out]; simp)]]; exact HG3.out⟩
              · have HR := hid hr
                have HT := hid (take_more (copyG ⟨a, b, c, d⟩ (atX F E) dx dy f) hin)
                obtain ⟨p, hp⟩ : ∃ p, p = atX F E (x - dx) (y - dy) := ⟨_, rfl⟩
                have HP := hid hp
                clear hr hin hp
                go_wp2_with (first
                  | (go_at_call 32; with_reducible refine Calls.mono (refAt_any B ao n m g off f x y _ HH.out.2.1 (by omega) (by omega) (by omega) HV.out) ?_; rintro e w1 ⟨rfl, hb1⟩; rw [HA.out]; have HG1 := hid (HG.out.below hb1); have hz1 := hb1.size; have HR1 := hid ((has4_low HW.out.2.2.1 HG1.out.low (by omega)).alloc (.cells #[.int .u8 (f x y).c0, .int .u8 (f x y).c1, .int .u8 (f x y).c2, .int .u8 (f x y).c3] 28)); obtain ⟨r0, r1, r2, r3, rf⟩ := HR1.out; clear hb1)
                  | (go_at_call 31; with_reducible refine Calls.mono (refHas_any a b c d x y _) ?_; rintro e w2 ⟨rfl, hb2⟩; rw [HR.out]; have HD := hid ((Rc.Has4.new (W := w1) (k := w1.heap.size) rfl (.int .u8 (f x y).c0) (.int .u8 (f x y).c1) (.int .u8 (f x y).c2) (.int .u8 (f x y).c3) 28).below hb2); have HG2 := hid ((HG1.out.below ((Below.refl _ _).alloc (Nat.le_refl _) _)).below hb2); clear hb2 r0 r1 r2 r3 rf; obtain ⟨e0, e1, e2, e3, e4, ef⟩ := has5_low HW.out.2.1 HG2.out.low (by omega))
                  | (go_at_call 32; with_reducible refine Calls.mono (refAt_any F fo fn fm fg foff E (x - dx) (y - dy) _ HF.out.2 (by omega) (by omega) (by omega) (HF.out.1.below (HW.out.2.2.2.2.2.1.trans (HG2.out.low.mono (by omega))))) ?_; rintro ee w3 ⟨rfl, hb3⟩; rw [← HP.out]; have HD3 := hid (HD.out.below hb3); have HG3 := hid (HG2.out.below hb3); clear hb3 e0 e1 e2 e3 e4 ef; obtain ⟨d0, d1, d2, d3, df⟩ := HD3.out; have HS := hid (has4_set HD3.out (.int .u8 p.c0) (.int .u8 p.c1) (.int .u8 p.c2) (.int .u8 p.c3)); have HG4 := hid (HG3.out.but (but_set4 w3 w1.heap.size (.int .u8 p.c0) (.int .u8 p.c1) (.int .u8 p.c2) (.int .u8 p.c3)) (by omega) (fun hc => Nat.ne_of_lt (Nat.lt_of_lt_of_le (HOG.out hc) hz1))); obtain ⟨t0, t1, t2, t3, tf⟩ := HS.out; obtain ⟨-, -, -, -, v4, -⟩ := HG4.out.o; obtain ⟨b', off', hF, hc4, hz4, hG5⟩ := HG4.out.app hon p _ rfl (.slice (some ⟨w3.heap.size, 0, none⟩) 1 1) (by simp); have HG5 := hid hG5; clear hG5))
                go_roundg (B.x1 - (x + 1)).toNat
                case measure => omega
                case rel => exact ⟨x + 1, _, _, _, _, _, by omega, by omega, rfl, rfl, by rw [pos_next B hx0, ← HT.out, show copyG ⟨a, b, c, d⟩ (atX F E) dx dy f x y = p by unfold copyG; rw [if_pos HR.out]; exact HP.out.symm]; exact HG5.out⟩
            · obtain rfl : B.x1 = x := by omega
              clear hG
              go_wp2
              go_roundg (B.y1 - (y + 1)).toNat
              case measure => omega
              case rel => exact ⟨y + 1, _, _, _, _, _, by omega, by omega, rfl, rfl, by rw [← pos_row B hy0 hx1]; exact HG.out⟩
        · obtain rfl : B.y1 = y := by omega
          have HZ : Hid (Has5 wr (w.heap.size + 1 + 1 + 1) ⟨0, 0, 0, 0⟩ none 0 0 ∧ (0 < om → og ≠ w.heap.size + 1 + 1 + 1)) := ⟨has5_low HW.out.2.2.2.1 hG.low (by omega), fun hc => by have := (hG.x.new hc).1; omega⟩
          obtain ⟨-, -, -, q3, -, -⟩ := has5_low HW.out.1 hG.low (by omega)
          obtain ⟨o0, o1, o2, o3, o4, of5⟩ := hG.o
          obtain ⟨z0, z1, z2, z3, z4, zf⟩ := HZ.out.1
          clear hG
          go_wp2
          obtain ⟨s0, s1, s2, s3, s4⟩ := set5 z0 z1 z2 z3 z4 (.int .i64 B.x0) (.int .i64 B.y0) (.int .i64 B.x1) (.int .i64 B.y1) (.slice oo on om)
          refine bodyPost_ret (v := .agg #[.int .i64 B.x0, .int .i64 B.y0, .int .i64 B.x1, .int .i64 B.y1, .slice oo on om]) (by simp [results, Try.results48, go_sem, s0, s1, s2, s3, s4]) rfl ⟨⟨_, _, _, og, ooff, rfl, ?_⟩, ?_⟩
          · have hx := HG.out.x
            rw [pos_last, List.take_of_length_le (by rw [img_len]; exact Nat.le_refl _)] at hx
            exact (hx.but (but_set5 _ _ _ _ _ _ _) HZ.out.2).mono (by omega)
          · exact below_set5 (HW.out.2.2.2.2.2.1.trans (HG.out.low.mono (by omega))) (by omega) _ _ _ _ _
end Go.Proofs.Ytfgfgfmimejpdaa
