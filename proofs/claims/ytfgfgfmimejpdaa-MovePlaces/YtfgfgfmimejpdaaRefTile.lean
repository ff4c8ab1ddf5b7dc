/- Tiles: the contract of the document. -/
import Derived.Test.YtfgfgfmimejpdaaMoveS
import Derived.Test.YtfgfgfmimejpdaaAtB
import Derived.Test.YtfgfgfmimejpdaaWith
import Derived.Test.YtfgfgfmimejpdaaRMoves
import Derived.Test.YtfgfgfmimejpdaaBoth
import Derived.Deep.LoopGhost
import Derived.Deep.Light
import Derived.BigQuiet
import Derived.Deep.QuietTactic
namespace Go.Proofs.Ytfgfgfmimejpdaa
open Num Go.RowKit
set_option linter.unusedVariables false
set_option linter.unusedSimpArgs false

theorem quiet_more {P : Program} {f : FuncId} {args : Array Value} {w : World} {k n : Nat} {v : Value}
    (h : Calls P f args (w.drewN (k + n)) fun e w' => e = .returned v ∧ w' = w.drewN (k + n)) : Calls P f args (w.drewN (k + n)) fun e w'' => e = .returned v ∧ ∃ m, w'' = w.drewN (k + m) :=
  h.mono fun _ _ ⟨he, hm⟩ => ⟨he, n, hm⟩
/-- what is handed in stands -/
structure Tw (k : Nat) (B D T : R) (ao : Option Addr) (n m : Nat) (w : World) : Prop where
  b : Has5 w k B ao n m
  d : Rc.Has4 w (k + 1) (.int .i64 D.x0) (.int .i64 D.y0) (.int .i64 D.x1) (.int .i64 D.y1)
  t : Rc.Has4 w (k + 1 + 1) (.int .i64 T.x0) (.int .i64 T.y0) (.int .i64 T.x1) (.int .i64 T.y1)
  z : Has5 w (k + 1 + 1 + 1) ⟨0, 0, 0, 0⟩ none 0 0
section
variable {k : Nat} {B D T : R} {ao : Option Addr} {n m : Nat} {w w' : World}
theorem Tw.below (h : Tw k B D T ao n m w) (hb : Below w.heap.size w w') : Tw k B D T ao n m w' := ⟨h.b.below hb, h.d.below hb, h.t.below hb, h.z.below hb⟩
theorem Tw.low (h : Tw k B D T ao n m w) {lo : Nat} (hb : Below lo w w') (hl : k + 1 + 1 + 1 < lo) : Tw k B D T ao n m w' := ⟨has5_low h.b hb (by omega), has4_low h.d hb (by omega), has4_low h.t hb (by omega), has5_low h.z hb hl⟩
theorem Tw.but (h : Tw k B D T ao n m w) (hb : But (k + 1 + 1 + 1 + 1) w w') : Tw k B D T ao n m w' := ⟨h.b.but hb (by omega), has4_but h.d hb (by omega), has4_but h.t hb (by omega), h.z.but hb (by omega)⟩
end

set_option maxRecDepth 100000 in
set_option maxHeartbeats 8000000 in
theorem refTile_any (B : R) (ao : Option Addr) (n m g off : Nat) (f : Int → Int → X) (D T : R) (w : World) (hBo : Ok B) (hn : n ≤ 5000) (hV : Vx w ao n m g off (img B f)) (hD : Ok D) (ha : area D ≤ 5000) (hDb : (-33554432 ≤ D.x0 ∧ D.x1 ≤ 33554432) ∧ (-33554432 ≤ D.y0 ∧ D.y1 ≤ 33554432)) (hT : (-33554432 ≤ T.x0 ∧ -33554432 ≤ T.y0) ∧ (T.x1 ≤ 33554432 ∧ T.y1 ≤ 33554432)) (eT : empB T = false) :
    Calls Try.prog 19 #[.agg #[.int .i64 B.x0, .int .i64 B.y0, .int .i64 B.x1, .int .i64 B.y1, .slice ao n m], .agg #[.int .i64 D.x0, .int .i64 D.y0, .int .i64 D.x1, .int .i64 D.y1], .agg #[.int .i64 T.x0, .int .i64 T.y0, .int .i64 T.x1, .int .i64 T.y1]] w fun e w' => RetB w.heap.size w' e (orN D) (img (orN D) (tileG T (atX B f))) ∧ Below w.heap.size w w' := by
  have HW : Hid (Tw w.heap.size B D T ao n m ((((((w.alloc (.cells #[.int .i64 B.x0, .int .i64 B.y0, .int .i64 B.x1, .int .i64 B.y1, .slice ao n m] 26)).alloc (.cells #[.int .i64 D.x0, .int .i64 D.y0, .int .i64 D.x1, .int .i64 D.y1] 23)).alloc (.cells #[.int .i64 T.x0, .int .i64 T.y0, .int .i64 T.x1, .int .i64 T.y1] 23)).alloc (.cells #[.int .i64 0, .int .i64 0, .int .i64 0, .int .i64 0, .slice none 0 0] 26)).alloc (.cells #[.int .i64 0, .int .i64 0, .int .i64 0, .int .i64 0, .slice none 0 0] 26))) ∧ Has5 ((((((w.alloc (.cells #[.int .i64 B.x0, .int .i64 B.y0, .int .i64 B.x1, .int .i64 B.y1, .slice ao n m] 26)).alloc (.cells #[.int .i64 D.x0, .int .i64 D.y0, .int .i64 D.x1, .int .i64 D.y1] 23)).alloc (.cells #[.int .i64 T.x0, .int .i64 T.y0, .int .i64 T.x1, .int .i64 T.y1] 23)).alloc (.cells #[.int .i64 0, .int .i64 0, .int .i64 0, .int .i64 0, .slice none 0 0] 26)).alloc (.cells #[.int .i64 0, .int .i64 0, .int .i64 0, .int .i64 0, .slice none 0 0] 26))) (w.heap.size + 1 + 1 + 1 + 1) ⟨0, 0, 0, 0⟩ none 0 0 ∧ Below w.heap.size w ((((((w.alloc (.cells #[.int .i64 B.x0, .int .i64 B.y0, .int .i64 B.x1, .int .i64 B.y1, .slice ao n m] 26)).alloc (.cells #[.int .i64 D.x0, .int .i64 D.y0, .int .i64 D.x1, .int .i64 D.y1] 23)).alloc (.cells #[.int .i64 T.x0, .int .i64 T.y0, .int .i64 T.x1, .int .i64 T.y1] 23)).alloc (.cells #[.int .i64 0, .int .i64 0, .int .i64 0, .int .i64 0, .slice none 0 0] 26)).alloc (.cells #[.int .i64 0, .int .i64 0, .int .i64 0, .int .i64 0, .slice none 0 0] 26)))) :=
    ⟨⟨((((Has5.new rfl _ _ _ _ _ _ _ _).alloc _).alloc _).alloc _).alloc _, (((Rc.Has4.new (by simp) _ _ _ _ _).alloc _).alloc _).alloc _, ((Rc.Has4.new (by simp) _ _ _ _ _).alloc _).alloc _, (Has5.new (by simp) _ _ _ _ _ _ _ _).alloc _⟩, Has5.new (by simp) _ _ _ _ _ _ _ _, (((((Below.refl _ _).alloc (Nat.le_refl _) _).alloc (by simp) _).alloc (by simp; omega) _).alloc (by simp; omega) _).alloc (by simp; omega) _⟩
  have HH := hid (And.intro hV hBo)
  obtain ⟨e1, e2⟩ := of_some eT
  obtain ⟨⟨t0, t1⟩, t2, t3⟩ := hT
  obtain ⟨⟨j0, j1⟩, j2, j3⟩ := hDb
  have HSZ : Hid ((0 < T.x1 - T.x0 ∧ T.x1 - T.x0 ≤ 1099511627776) ∧ (0 < T.y1 - T.y0 ∧ T.y1 - T.y0 ≤ 1099511627776)) := by show (_ ∧ _) ∧ (_ ∧ _); omega

  obtain ⟨G, hG⟩ : ∃ G, G = tileG T (atX B f) := ⟨_, rfl⟩
  rw [← hG]
  have HGG := hid hG
  obtain ⟨d0, d1, d2, d3, df⟩ := HW.out.1.d
  rcases he : empB D with _ | _
  · obtain ⟨x01, y01⟩ := of_some he
    have ha' := ha
    obtain ⟨-, s5, -⟩ := size_of hD he ha'
    rw [orN_no he]
    have HE : Hid (empB ⟨D.x0, D.y0, D.x1, D.y1⟩ = false) := he
    have hDo := hD
    obtain ⟨⟨i0, i1⟩, ⟨i2, i3⟩, ⟨i4, i5⟩, i6, i7⟩ := hDo
    clear hV hBo eT ha ha' he hG hD
    go_enter Try.func19, Try.ntmps19
    go_wp2_with (go_at_call 15; with_reducible refine Calls.mono (Rc.refEmpty_any D.x0 D.y0 D.x1 D.y1 _) ?_; rintro e w1 ⟨rfl, hb1⟩; rw [HE.out]; have HW1 := hid (And.intro (HW.out.1.below hb1) (And.intro (HW.out.2.1.below hb1) (Rc.via HW.out.2.2 hb1))); clear hb1 d0 d1 d2 d3 df; obtain ⟨d0, d1, d2, d3, df⟩ := HW1.out.1.d; obtain ⟨o0, o1, o2, o3, o4, of4⟩ := HW1.out.2.1)
    have hbs := but_set4 w1 (w.heap.size + 1 + 1 + 1 + 1) (.int .i64 D.x0) (.int .i64 D.y0) (.int .i64 D.x1) (.int .i64 D.y1)
    have HX : Hid (Tw w.heap.size B D T ao n m ((((w1.setCell ⟨w.heap.size + 1 + 1 + 1 + 1, 0, none⟩ (.int .i64 D.x0)).setCell ⟨w.heap.size + 1 + 1 + 1 + 1, 1, none⟩ (.int .i64 D.y0)).setCell ⟨w.heap.size + 1 + 1 + 1 + 1, 2, none⟩ (.int .i64 D.x1)).setCell ⟨w.heap.size + 1 + 1 + 1 + 1, 3, none⟩ (.int .i64 D.y1)) ∧ Below w.heap.size w ((((w1.setCell ⟨w.heap.size + 1 + 1 + 1 + 1, 0, none⟩ (.int .i64 D.x0)).setCell ⟨w.heap.size + 1 + 1 + 1 + 1, 1, none⟩ (.int .i64 D.y0)).setCell ⟨w.heap.size + 1 + 1 + 1 + 1, 2, none⟩ (.int .i64 D.x1)).setCell ⟨w.heap.size + 1 + 1 + 1 + 1, 3, none⟩ (.int .i64 D.y1)) ∧ Gs ((((w1.setCell ⟨w.heap.size + 1 + 1 + 1 + 1, 0, none⟩ (.int .i64 D.x0)).setCell ⟨w.heap.size + 1 + 1 + 1 + 1, 1, none⟩ (.int .i64 D.y0)).setCell ⟨w.heap.size + 1 + 1 + 1 + 1, 2, none⟩ (.int .i64 D.x1)).setCell ⟨w.heap.size + 1 + 1 + 1 + 1, 3, none⟩ (.int .i64 D.y1)) (w.heap.size + 1 + 1 + 1 + 1) D [] none 0 0 0 0 ((((w1.setCell ⟨w.heap.size + 1 + 1 + 1 + 1, 0, none⟩ (.int .i64 D.x0)).setCell ⟨w.heap.size + 1 + 1 + 1 + 1, 1, none⟩ (.int .i64 D.y0)).setCell ⟨w.heap.size + 1 + 1 + 1 + 1, 2, none⟩ (.int .i64 D.x1)).setCell ⟨w.heap.size + 1 + 1 + 1 + 1, 3, none⟩ (.int .i64 D.y1))) :=
      ⟨HW1.out.1.but hbs, HW1.out.2.2.trans (hbs.low (by omega) HW1.out.2.2.size), ⟨has5_box HW1.out.2.1 _ _ _ _, oz_nil _ _ _ _, Below.refl _ _⟩⟩
    clear hbs d0 d1 d2 d3 df o0 o1 o2 o3 o4 of4 HW1
    generalize ((((w1.setCell ⟨w.heap.size + 1 + 1 + 1 + 1, 0, none⟩ (.int .i64 D.x0)).setCell ⟨w.heap.size + 1 + 1 + 1 + 1, 1, none⟩ (.int .i64 D.y0)).setCell ⟨w.heap.size + 1 + 1 + 1 + 1, 2, none⟩ (.int .i64 D.x1)).setCell ⟨w.heap.size + 1 + 1 + 1 + 1, 3, none⟩ (.int .i64 D.y1)) = W0 at HX ⊢
    go_loopg [8] (D.y1 - D.y0).toNat (fun gh v12 wr => ∃ y oo on om og ooff, D.y0 ≤ y ∧ y ≤ D.y1 ∧ gh = (D.y1 - y).toNat ∧ v12 = .int .i64 y ∧ Gs W0 (w.heap.size + 1 + 1 + 1 + 1) D ((img D G).take (posN D D.x0 y)) oo on om og ooff wr)
    case atStart => exact ⟨D.y0, none, 0, 0, 0, 0, Int.le_refl _, by omega, rfl, rfl, by rw [pos_first]; exact HX.out.2.2⟩
    case round =>
      obtain ⟨y, oo, on, om, og, ooff, hy0, hy1, rfl, rfl, hG⟩ := hrel
      have HG1 := hid hG
      obtain ⟨d0, d1, d2, d3, df⟩ := (HX.out.1.low hG.low (by omega)).d
      by_cases hlt : y < D.y1
      · clear hG
        go_wp2
        go_loopg [9] (D.x1 - D.x0).toNat (fun gh v13 wr => ∃ x oo on om og ooff, D.x0 ≤ x ∧ x ≤ D.x1 ∧ gh = (D.x1 - x).toNat ∧ v13 = .int .i64 x ∧ Gs W0 (w.heap.size + 1 + 1 + 1 + 1) D ((img D G).take (posN D x y)) oo on om og ooff wr)
        case atStart => exact ⟨D.x0, _, _, _, _, _, Int.le_refl _, by omega, rfl, rfl, HG1.out⟩
        case round =>
          clear HG1 d0 d1 d2 d3 df oo on om og ooff
          obtain ⟨x, oo, on, om, og, ooff, hx0, hx1, rfl, rfl, hG⟩ := hrel
          have HG1 := hid hG
          obtain ⟨d0, d1, d2, d3, df⟩ := (HX.out.1.low hG.low (by omega)).d
          by_cases hltx : x < D.x1
          · have hon : on ≤ 1000000 := by have h1 := vx_len hG.x.v; have h2 := take_len D G (posN D x y); omega
            have hl5 : w.heap.size + 1 + 1 + 1 + 1 < wr.heap.size := hG.lt
            have HBX : Hid (hasB D x y = true) := decide_eq_true (by omega)
            have HXb : Hid (-1099511627776 ≤ x - T.x0 ∧ x - T.x0 ≤ 1099511627776) := by show _ ∧ _; omega
            have HYb : Hid (-1099511627776 ≤ y - T.y0 ∧ y - T.y0 ≤ 1099511627776) := by show _ ∧ _; omega
            obtain ⟨q0, q1, q2, q3, qf⟩ := (HX.out.1.low hG.low (by omega)).t
            obtain ⟨u, hu⟩ : ∃ u, (x - T.x0) % (T.x1 - T.x0) = u := ⟨_, rfl⟩
            obtain ⟨v, hv⟩ : ∃ v, (y - T.y0) % (T.y1 - T.y0) = v := ⟨_, rfl⟩
            have hub : 0 ≤ u ∧ u < T.x1 - T.x0 := by rw [← hu]; exact ⟨Int.emod_nonneg _ (by omega), Int.emod_lt_of_pos _ (by omega)⟩
            have hvb : 0 ≤ v ∧ v < T.y1 - T.y0 := by rw [← hv]; exact ⟨Int.emod_nonneg _ (by omega), Int.emod_lt_of_pos _ (by omega)⟩
            have HUV : Hid (atX B f (T.x0 + u) (T.y0 + v) = G x y) := by
              show atX B f (T.x0 + u) (T.y0 + v) = G x y
              rw [HGG.out, ← hu, ← hv]
              rfl
            obtain ⟨ub0, ub1⟩ := hub
            obtain ⟨vb0, vb1⟩ := hvb
            clear hG
            go_wp2
            go_quiet (first | (go_at_call 46; with_reducible refine Calls.quiet_of_same (back_any (x - T.x0) (T.x1 - T.x0) _ HSZ.out.1 HXb.out)) | (go_at_call 46; with_reducible refine quiet_more (back_any (x - T.x0) (T.x1 - T.x0) _ HSZ.out.1 HXb.out)))
            have hd := below_drewN (Below.refl wr.heap.size wr) nq
            replace HG1 := hid (HG1.out.below hd)
            replace hl5 : w.heap.size + 1 + 1 + 1 + 1 < (wr.drewN nq).heap.size := hl5
            clear hd q0 q1 q2 q3 qf d0 d1 d2 d3 df
            generalize wr.drewN nq = wr1 at HG1 hl5 ⊢
            obtain ⟨q0, q1, q2, q3, qf⟩ := (HX.out.1.low HG1.out.low (by omega)).t
            go_wp2
            go_quiet (first | (go_at_call 46; with_reducible refine Calls.quiet_of_same (back_any (y - T.y0) (T.y1 - T.y0) _ HSZ.out.2 HYb.out)) | (go_at_call 46; with_reducible refine quiet_more (back_any (y - T.y0) (T.y1 - T.y0) _ HSZ.out.2 HYb.out)))
            have hd := below_drewN (Below.refl wr1.heap.size wr1) nq
            replace HG1 := hid (HG1.out.below hd)
            replace hl5 : w.heap.size + 1 + 1 + 1 + 1 < (wr1.drewN nq).heap.size := hl5
            clear hd q0 q1 q2 q3 qf hu hv
            generalize wr1.drewN nq = wr2 at HG1 hl5 ⊢
            obtain ⟨o0, o1, o2, o3, o4, of4⟩ := HG1.out.o
            obtain ⟨q0, q1, q2, q3, q4, qf⟩ := (HX.out.1.low HG1.out.low (by omega)).b
            have HV : Hid (Vx wr2 ao n m g off (img B f)) := HH.out.1.below (HX.out.2.1.trans (HG1.out.low.mono (by omega)))
            have HN : Hid (n ≤ 1000000 ∧ (-9000000000000 ≤ T.x0 + u ∧ T.x0 + u ≤ 9000000000000) ∧ (-9000000000000 ≤ T.y0 + v ∧ T.y0 + v ≤ 9000000000000)) := by show _ ∧ (_ ∧ _) ∧ (_ ∧ _); omega
            go_wp2
            go_region_with (first
              | (go_at_call 32; with_reducible refine Calls.mono (refAt_any B ao n m g off f (T.x0 + u) (T.y0 + v) _ HH.out.2 HN.out.1 HN.out.2.1 HN.out.2.2 (HV.out.below (Below.refl _ _).drew)) ?_; rintro e w2 ⟨rfl, hb2⟩; rw [HUV.out]; have HG2 := hid (HG1.out.below (Rc.via (Below.refl _ _).drew hb2)); have hlo2 : w.heap.size + 1 + 1 + 1 + 1 + 1 ≤ w2.heap.size := (by have := HG2.out.lt; omega); clear hb2 o0 o1 o2 o3 o4 of4 q0 q1 q2 q3 q4 qf; obtain ⟨o0, o1, o2, o3, o4, of4⟩ := HG2.out.o)
              | (go_at_call 47; with_reducible refine Calls.mono (with4 (w.heap.size + 1 + 1 + 1 + 1 + 1) D oo on om og ooff ((img D G).take (posN D x y)) (G x y).c0 (G x y).c1 (G x y).c2 (G x y).c3 _ HG2.out.x hlo2 hon) ?_; rintro e w5 hr; obtain ⟨oo', om', og', ooff', rfl, hO5, hB5, hK5⟩ := retA hr; have H5 := hid (HG2.out.o.block (hB5.block (w.heap.size + 1 + 1 + 1 + 1) (Nat.lt_succ_self _))); have HG5 := hid (HG2.out.next hO5 hB5 H5.out); clear hr hO5 hB5 hK5 o0 o1 o2 o3 o4 of4; obtain ⟨o0, o1, o2, o3, o4, of4⟩ := H5.out))
            all_goals
              go_wp2
              go_roundg (D.x1 - (x + 1)).toNat
              case measure => omega
              case rel =>
                refine ⟨x + 1, oo', on + 1, om', og', ooff', by omega, by omega, rfl, rfl, ?_⟩
                have h9 := HG5.out
                rw [show (⟨(G x y).c0, (G x y).c1, (G x y).c2, (G x y).c3⟩ : X) = G x y from rfl, take_more G HBX.out, ← pos_next D hx0] at h9
                exact h9

          · obtain rfl : D.x1 = x := by omega
            clear hG
            go_wp2
            go_roundg (D.y1 - (y + 1)).toNat
            case measure => omega
            case rel => exact ⟨y + 1, oo, on, om, og, ooff, by omega, by omega, rfl, rfl, by rw [← pos_row D hy0 x01]; exact HG1.out⟩
      · obtain rfl : D.y1 = y := by omega
        obtain ⟨o0, o1, o2, o3, o4, of4⟩ := hG.o
        obtain ⟨z0, z1, z2, z3, z4, zf⟩ := (HX.out.1.low hG.low (by omega)).z
        clear hG
        go_wp2
        obtain ⟨s0, s1, s2, s3, s4⟩ := set5 z0 z1 z2 z3 z4 (.int .i64 D.x0) (.int .i64 D.y0) (.int .i64 D.x1) (.int .i64 D.y1) (.slice oo on om)
        refine bodyPost_ret (v := .agg #[.int .i64 D.x0, .int .i64 D.y0, .int .i64 D.x1, .int .i64 D.y1, .slice oo on om]) (by simp [results, Try.results19, go_sem, s0, s1, s2, s3, s4]) rfl ⟨⟨_, _, _, og, ooff, rfl, ?_⟩, ?_⟩
        · have hx := HG1.out.x
          rw [pos_last, List.take_of_length_le (by rw [img_len]; exact Nat.le_refl _)] at hx
          exact (hx.but (but_set5 _ _ _ _ _ _ _) (fun hc => by have := (hx.new hc).1; omega)).mono (by omega)
        · exact below_set5 (HX.out.2.1.trans (HG1.out.low.mono (by omega))) (by omega) _ _ _ _ _
  · rw [orN_yes he]
    have HE : Hid (empB ⟨D.x0, D.y0, D.x1, D.y1⟩ = true) := he
    clear hV hBo eT ha he hG hD
    go_enter Try.func19, Try.ntmps19
    go_wp2_with (go_at_call 15; with_reducible refine Calls.mono (Rc.refEmpty_any D.x0 D.y0 D.x1 D.y1 _) ?_; rintro e w1 ⟨rfl, hb1⟩; rw [HE.out]; have HW1 := hid (And.intro (HW.out.1.below hb1) (And.intro (HW.out.2.1.below hb1) (Rc.via HW.out.2.2 hb1))); clear hb1 d0 d1 d2 d3 df; obtain ⟨o0, o1, o2, o3, o4, of4⟩ := HW1.out.2.1; obtain ⟨z0, z1, z2, z3, z4, zf⟩ := HW1.out.1.z)
    obtain ⟨s0, s1, s2, s3, s4⟩ := set5 z0 z1 z2 z3 z4 (.int .i64 0) (.int .i64 0) (.int .i64 0) (.int .i64 0) (.slice none 0 0)
    refine bodyPost_ret (v := .agg #[.int .i64 0, .int .i64 0, .int .i64 0, .int .i64 0, .slice none 0 0]) (by simp [results, Try.results19, go_sem, s0, s1, s2, s3, s4]) rfl ⟨⟨_, _, _, 0, 0, rfl, oz_nil _ _ _ _⟩, ?_⟩
    exact below_set5 HW1.out.2.2 (by omega) _ _ _ _ _
end Go.Proofs.Ytfgfgfmimejpdaa
