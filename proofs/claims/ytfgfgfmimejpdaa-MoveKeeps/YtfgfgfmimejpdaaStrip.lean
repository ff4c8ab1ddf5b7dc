/- Columns' means, side by side: the contract. -/
import Derived.Test.YtfgfgfmimejpdaaStripH
namespace Go.Proofs.Ytfgfgfmimejpdaa
open Num Go.RowKit
set_option linter.unusedVariables false
set_option linter.unusedSimpArgs false

theorem us_re {w : World} {k o : Nat} {s s' : X} (h : Us w k o s) (e : s = s') : Us w k o s' := e ▸ h
/-- how a strip lies in the buffers -/
structure Lay (B A Q : R) (r : Nat) : Prop where
  ob : Ok B
  oa : Ok A
  oq : Ok Q
  ax : B.x0 ≤ A.x0 ∧ A.x0 < A.x1 ∧ A.x1 ≤ B.x1
  ay : B.y0 ≤ A.y0 ∧ A.y0 < A.y1 ∧ A.y1 ≤ B.y1
  qx : Q.x0 ≤ A.x0 ∧ A.x1 ≤ Q.x1
  qy : Q.y0 < Q.y1 ∧ Q.y0 ≤ A.y0 + (r : Int)
  hr : r ≤ 255

set_option maxRecDepth 100000 in
set_option maxHeartbeats 8000000 in
theorem strip_any (lo g off n m : Nat) (B : R) (F : Int → Int → X) (qg qoff qn qm : Nat) (Q : R) (rho : Int → Int → X) (A : R) (KW r : Nat) (w : World) (hl : Lay B A Q r) (hKW : A.x1 - A.x0 = (KW : Int)) (hKW6 : KW ≤ 256) (hn : n ≤ 5000) (hqn : qn ≤ 5000) (hO : Ox lo w (some ⟨g, off, none⟩) n m g off (img B F)) (hV : Vx w (some ⟨qg, qoff, none⟩) qn qm qg qoff (img Q rho)) (hgl : g < w.heap.size) (hql : qg < w.heap.size) (hne : qg ≠ g) (hb : ∀ x y, byteX (rho x y)) :
    Calls Try.prog 87 #[.agg #[.int .i64 B.x0, .int .i64 B.y0, .int .i64 B.x1, .int .i64 B.y1, .slice (some ⟨g, off, none⟩) n m], .agg #[.int .i64 A.x0, .int .i64 A.y0, .int .i64 A.x1, .int .i64 A.y1], .agg #[.int .i64 Q.x0, .int .i64 Q.y0, .int .i64 Q.x1, .int .i64 Q.y1, .slice (some ⟨qg, qoff, none⟩) qn qm], .int .i64 (r : Int)] w fun e w' => e = .returned (.tuple #[]) ∧ Ox lo w' (some ⟨g, off, none⟩) n m g off (img B (areaG A (colG (atX Q rho) r) F)) ∧ But g w w' := by
  have HNN : Hid (n = wid B * hei B ∧ qn = wid Q * hei Q) := by
    have h1 := vx_len hO.v
    have h2 := vx_len hV
    rw [img_len] at h1 h2
    exact ⟨h1.symm, h2.symm⟩
  have hnm : n ≤ m := hO.v.le
  have hmx : m ≤ maxLen := hO.v.max
  have hqm : qn ≤ qm := hV.le
  have hqx : qm ≤ maxLen := hV.max
  have HK := hid hKW
  have HL := hid hl
  have HB := hid hb
  obtain ⟨⟨⟨i0, i1⟩, ⟨i2, i3⟩, ⟨i4, i5⟩, i6, i7⟩, ⟨⟨j0, j1⟩, ⟨j2, j3⟩, ⟨j4, j5⟩, j6, j7⟩, ⟨⟨l0, l1⟩, ⟨l2, l3⟩, ⟨l4, l5⟩, l6, l7⟩, ⟨a0, a1, a2⟩, ⟨a3, a4, a5⟩, ⟨a6, a7⟩, ⟨a8, a9⟩, hr⟩ := hl
  have hKW0 : 0 < KW := by omega
  have HS : Hid (Ss w lo g off n m B (areaG ⟨A.x0, A.y0, A.x1, Q.y0 - (r : Int)⟩ (colG (atX Q rho) r) F) qg qoff qn qm Q rho w.heap.size (w.heap.size + 1) (w.heap.size + 1 + 1) (w.heap.size + 1 + 1 + 1) A KW (colS Q A rho r Q.y0) ((((w.alloc (.cells #[.int .i64 B.x0, .int .i64 B.y0, .int .i64 B.x1, .int .i64 B.y1, .slice (some ⟨g, off, none⟩) n m] 26)).alloc (.cells #[.int .i64 A.x0, .int .i64 A.y0, .int .i64 A.x1, .int .i64 A.y1] 23)).alloc (.cells #[.int .i64 Q.x0, .int .i64 Q.y0, .int .i64 Q.x1, .int .i64 Q.y1, .slice (some ⟨qg, qoff, none⟩) qn qm] 26)).alloc (.cells zs73 98))) := by
    have h0 : ((((w.alloc (.cells #[.int .i64 B.x0, .int .i64 B.y0, .int .i64 B.x1, .int .i64 B.y1, .slice (some ⟨g, off, none⟩) n m] 26)).alloc (.cells #[.int .i64 A.x0, .int .i64 A.y0, .int .i64 A.x1, .int .i64 A.y1] 23)).alloc (.cells #[.int .i64 Q.x0, .int .i64 Q.y0, .int .i64 Q.x1, .int .i64 Q.y1, .slice (some ⟨qg, qoff, none⟩) qn qm] 26)).alloc (.cells zs73 98)).heap.size = w.heap.size + 1 + 1 + 1 + 1 := by simp
    have hbl : Below w.heap.size w ((((w.alloc (.cells #[.int .i64 B.x0, .int .i64 B.y0, .int .i64 B.x1, .int .i64 B.y1, .slice (some ⟨g, off, none⟩) n m] 26)).alloc (.cells #[.int .i64 A.x0, .int .i64 A.y0, .int .i64 A.x1, .int .i64 A.y1] 23)).alloc (.cells #[.int .i64 Q.x0, .int .i64 Q.y0, .int .i64 Q.x1, .int .i64 Q.y1, .slice (some ⟨qg, qoff, none⟩) qn qm] 26)).alloc (.cells zs73 98)) := ((((Below.refl _ _).alloc (Nat.le_refl _) _).alloc (by simp) _).alloc (by simp; omega) _).alloc (by simp; omega) _
    refine ⟨(((Has5.new rfl _ _ _ _ _ _ _ _).alloc _).alloc _).alloc _, ((Rc.Has4.new (by simp) _ _ _ _ _).alloc _).alloc _, (Has5.new (by simp) _ _ _ _ _ _ _ _).alloc _, ?_, hV.below hbl, fun i hi => ?_, But.of hbl, by omega, by omega, by omega, by omega, by omega, by omega⟩
    · rw [area_ahead A _ _ (by omega)]
      exact hO.below hbl
    · have hz : colS Q A rho r Q.y0 i = noX := by
        unfold colS
        apply sum_zero
        intro x h1 h2
        unfold atX hasB
        rw [if_neg (by simp only [decide_eq_true_eq]; omega)]
      rw [hz]
      have hc : ∀ j, j < 1024 → ((((w.alloc (.cells #[.int .i64 B.x0, .int .i64 B.y0, .int .i64 B.x1, .int .i64 B.y1, .slice (some ⟨g, off, none⟩) n m] 26)).alloc (.cells #[.int .i64 A.x0, .int .i64 A.y0, .int .i64 A.x1, .int .i64 A.y1] 23)).alloc (.cells #[.int .i64 Q.x0, .int .i64 Q.y0, .int .i64 Q.x1, .int .i64 Q.y1, .slice (some ⟨qg, qoff, none⟩) qn qm] 26)).alloc (.cells zs73 98)).cell? ⟨w.heap.size + 1 + 1 + 1, j, none⟩ = some (.int .u32 0) := by
        intro j hj
        have := World.cell?_alloc_new (((w.alloc (.cells #[.int .i64 B.x0, .int .i64 B.y0, .int .i64 B.x1, .int .i64 B.y1, .slice (some ⟨g, off, none⟩) n m] 26)).alloc (.cells #[.int .i64 A.x0, .int .i64 A.y0, .int .i64 A.x1, .int .i64 A.y1] 23)).alloc (.cells #[.int .i64 Q.x0, .int .i64 Q.y0, .int .i64 Q.x1, .int .i64 Q.y1, .slice (some ⟨qg, qoff, none⟩) qn qm] 26)) zs73 98 j
        rw [zs73_at j hj] at this
        simpa using this
      refine ⟨hc _ (by omega), hc _ (by omega), hc _ (by omega), hc _ (by omega), fun j => ?_⟩
      have := World.frozen?_alloc_new (((w.alloc (.cells #[.int .i64 B.x0, .int .i64 B.y0, .int .i64 B.x1, .int .i64 B.y1, .slice (some ⟨g, off, none⟩) n m] 26)).alloc (.cells #[.int .i64 A.x0, .int .i64 A.y0, .int .i64 A.x1, .int .i64 A.y1] 23)).alloc (.cells #[.int .i64 Q.x0, .int .i64 Q.y0, .int .i64 Q.x1, .int .i64 Q.y1, .slice (some ⟨qg, qoff, none⟩) qn qm] 26)) zs73 98 j
      simpa using this
  have hz73 := zero73
  have hne73 := zs73_ne
  clear hO hV hb hKW
  go_enter Try.func87, Try.ntmps87
  go_wp2
  clear hz73 hne73
  generalize ((((w.alloc (.cells #[.int .i64 B.x0, .int .i64 B.y0, .int .i64 B.x1, .int .i64 B.y1, .slice (some ⟨g, off, none⟩) n m] 26)).alloc (.cells #[.int .i64 A.x0, .int .i64 A.y0, .int .i64 A.x1, .int .i64 A.y1] 23)).alloc (.cells #[.int .i64 Q.x0, .int .i64 Q.y0, .int .i64 Q.x1, .int .i64 Q.y1, .slice (some ⟨qg, qoff, none⟩) qn qm] 26)).alloc (.cells zs73 98)) = W0 at HS ⊢
  go_loopg [9] (A.y1 + (r : Int) - Q.y0).toNat (fun gh v9 wr => ∃ v, Q.y0 ≤ v ∧ v ≤ A.y1 + (r : Int) ∧ gh = (A.y1 + (r : Int) - v).toNat ∧ v9 = .int .i64 v ∧ Ss w lo g off n m B (areaG ⟨A.x0, A.y0, A.x1, v - (r : Int)⟩ (colG (atX Q rho) r) F) qg qoff qn qm Q rho w.heap.size (w.heap.size + 1) (w.heap.size + 1 + 1) (w.heap.size + 1 + 1 + 1) A KW (colS Q A rho r v) wr)
  case atStart => exact ⟨Q.y0, Int.le_refl _, by omega, rfl, rfl, HS.out⟩
  case round =>
    clear HS
    obtain ⟨v, hv0, hv1, rfl, rfl, hS⟩ := hrel
    have HS := hid hS
    obtain ⟨d0, d1, d2, d3, df⟩ := hS.a
    obtain ⟨e0, e1, e2, e3, e4, ef⟩ := hS.q
    clear hS
    by_cases hlt : v < A.y1 + (r : Int)
    · go_upto_if 33 with fail
      go_cut [10] (fun v10 wx => Ss w lo g off n m B (areaG ⟨A.x0, A.y0, A.x1, v - (r : Int)⟩ (colG (atX Q rho) r) F) qg qoff qn qm Q rho w.heap.size (w.heap.size + 1) (w.heap.size + 1 + 1) (w.heap.size + 1 + 1 + 1) A KW (colT Q A rho r v) wx)
      case first =>
        by_cases hin : v < Q.y1
        · have HI : Hid (In Q A.x0 A.x1 v) := ⟨hv0, hin, a6, by omega, a7⟩
          go_wp2_with (go_at_call 85; with_reducible refine Calls.mono (row_at Q qn qm qg qoff A.x0 A.x1 v KW _ HL.out.oq HI.out HK.out hKW0 HNN.out.2 hqn hqm hqx) ?_; rintro e w2 ⟨rfl, hb2⟩; have HS1 := hid (HS.out.below hb2); clear hb2)
          clear d0 d1 d2 d3 df e0 e1 e2 e3 e4 ef
          go_loopg [42] KW (fun gh vc wr => ∃ i : Nat, i ≤ KW ∧ gh = KW - i ∧ vc = .int .i64 (i : Int) ∧ Ss w lo g off n m B (areaG ⟨A.x0, A.y0, A.x1, v - (r : Int)⟩ (colG (atX Q rho) r) F) qg qoff qn qm Q rho w.heap.size (w.heap.size + 1) (w.heap.size + 1 + 1) (w.heap.size + 1 + 1 + 1) A KW (part i (colT Q A rho r v) (colS Q A rho r v)) wr)
          case atStart => exact ⟨0, Nat.zero_le _, rfl, rfl, HS1.out.re (fun i _ => part_none _ _ i)⟩
          case round =>
            clear HS1
            obtain ⟨i, hi, rfl, rfl, hS⟩ := hrel
            have HS2 := hid hS
            clear hS
            by_cases hil : i < KW
            · have hiz : (i : Int) < (KW : Int) := by omega
              have hi6 : (i : Int) < 256 := by omega
              have hx : Hid ((line (fun x => rho x v) A.x0 A.x1)[i]? = some (rho (A.x0 + (i : Int)) v)) := line_get _ _ _ (by have := HK.out; omega)
              obtain ⟨p, hp⟩ : ∃ p, p = rho (A.x0 + (i : Int)) v := ⟨_, rfl⟩
              rw [← hp] at hx
              have HP : Hid (byteX p ∧ addX ((colS Q A rho r v) i) p = (colT Q A rho r v) i) := by
                refine ⟨by rw [hp]; exact HB.out _ _, ?_⟩
                rw [hp]
                have := col_in Q A rho r v i
                unfold atX at this
                rwa [if_pos (show hasB Q (A.x0 + (i : Int)) v = true from decide_eq_true (by have := HK.out; omega))] at this
              have HUP := hid (col_up (Q := Q) (A := A) HB.out hr v i)
              have HUP2 := hid (col_up (Q := Q) (A := A) HB.out hr (v + 1) i)
              clear hp
              obtain ⟨-, t0, t1, t2, t3⟩ := vx_at (vx_row HS2.out.v HI.out HK.out) hx.out
              have HS3 := hid (HS2.out.below ((Below.refl _ _).alloc (Nat.le_refl _) (.cells #[.int .u8 p.c0, .int .u8 p.c1, .int .u8 p.c2, .int .u8 p.c3] 28)))
              go_wp2
              go_region_with (go_at_call 94; with_reducible refine Calls.mono (add_any (w.heap.size + 1 + 1 + 1) (i * 4) ((colS Q A rho r v) i) p _ (us_re ((HS3.out.below (by first | with_reducible exact Below.refl _ _ | with_reducible exact (Below.refl _ _).drew | with_reducible exact below_drewN (Below.refl _ _) _)).s i hil) (part_same _ _ _)) (by rw [HP.out.2]; exact HUP.out.2.1) HP.out.1) ?_; rintro e w3 ⟨rfl, hu, hc⟩; rw [HP.out.2] at hu; have HS4 := hid (Ss.sum (S' := part (i + 1) (colT Q A rho r v) (colS Q A rho r v)) (HS3.out.below (by first | with_reducible exact Below.refl _ _ | with_reducible exact (Below.refl _ _).drew | with_reducible exact below_drewN (Below.refl _ _) _)) hu hc (part_new _ _ _) (fun j _ hj => part_old _ _ _ hj)); clear hu hc)
              all_goals
                go_wp2
                go_roundg (KW - (i + 1))
                case measure => omega
                case rel => exact ⟨i + 1, by omega, rfl, by simp, HS4.out⟩
            · obtain rfl : KW = i := by omega
              go_wp2
              go_meet
              case rel => exact HS2.out.re (fun i hi => part_all _ _ hi)
        · go_wp2
          go_meet
          case rel =>
            refine HS.out.re (fun i hi => ?_)
            have := col_in Q A rho r v i
            unfold atX at this
            rw [if_neg (by unfold hasB; simp only [decide_eq_true_eq]; omega), add_no] at this
            exact this.symm
      case rest =>
        have HS := hid hcut
        obtain ⟨w3, rfl⟩ : ∃ w3, w3 = wc := ⟨_, rfl⟩
        clear hcut d0 d1 d2 d3 df e0 e1 e2 e3 e4 ef
        obtain ⟨d0, d1, d2, d3, df⟩ := HS.out.a
        obtain ⟨b0, b1, b2, b3, b4, bf⟩ := HS.out.b
        go_upto_if 58 with fail
        go_cut [13] (fun v13 wx => Ss w lo g off n m B (areaG ⟨A.x0, A.y0, A.x1, v + 1 - (r : Int)⟩ (colG (atX Q rho) r) F) qg qoff qn qm Q rho w.heap.size (w.heap.size + 1) (w.heap.size + 1 + 1) (w.heap.size + 1 + 1 + 1) A KW (colT Q A rho r v) wx)
        case first =>
          by_cases hm : A.y0 ≤ v - (r : Int)
          · have HI : Hid (In B A.x0 A.x1 (v - (r : Int))) := ⟨by omega, by omega, a0, by omega, a2⟩
            go_wp2_with (go_at_call 85; with_reducible refine Calls.mono (row_at B n m g off A.x0 A.x1 (v - (r : Int)) KW _ HL.out.ob HI.out HK.out hKW0 HNN.out.1 hn hnm hmx) ?_; rintro e w2 ⟨rfl, hb2⟩; have HS1 := hid (HS.out.below hb2); clear hb2)
            clear d0 d1 d2 d3 df b0 b1 b2 b3 b4 bf
            obtain ⟨q, hq⟩ : ∃ q, q = posN B A.x0 (v - (r : Int)) := ⟨_, rfl⟩
            have HQ : Hid (∀ i : Nat, posN B (A.x0 + (i : Int)) (v - (r : Int)) = q + i) := by
              intro i
              rw [hq]
              unfold posN
              omega
            have HQN : Hid (q + KW ≤ n) := by
              have h1 := pos_end (B := B) (y := v - (r : Int)) (a := A.x0) (b := A.x1) ⟨HI.out.y0, HI.out.y1⟩ HI.out.x0 HI.out.le HI.out.x1
              have h2 := HK.out
              have h3 := HNN.out.1
              show q + KW ≤ n
              omega
            rw [← hq]
            clear hq
            go_loopg [68] KW (fun gh vc wr => ∃ i : Nat, i ≤ KW ∧ gh = KW - i ∧ vc = .int .i64 (i : Int) ∧ Ss w lo g off n m B (putG (areaG ⟨A.x0, A.y0, A.x1, v - (r : Int)⟩ (colG (atX Q rho) r) F) (v - (r : Int)) A.x0 (A.x0 + ((i : Nat) : Int)) (fun x => (colG (atX Q rho) r) x (v - (r : Int)))) qg qoff qn qm Q rho w.heap.size (w.heap.size + 1) (w.heap.size + 1 + 1) (w.heap.size + 1 + 1 + 1) A KW (colT Q A rho r v) wr)
            case atStart => exact ⟨0, Nat.zero_le _, rfl, rfl, HS1.out.im (by rw [put_none])⟩
            case round =>
              clear HS1
              obtain ⟨i, hi, rfl, rfl, hS⟩ := hrel
              have HS2 := hid hS
              clear hS
              by_cases hil : i < KW
              · have hiz : (i : Int) < (KW : Int) := by omega
                have hi6 : (i : Int) < 256 := by omega
                have HUP := hid (col_up (Q := Q) (A := A) HB.out hr v i)
                have HII : Hid (In B (A.x0 + (i : Int)) (A.x0 + (i : Int) + 1) (v - (r : Int))) := ⟨HI.out.y0, HI.out.y1, by have := HI.out.x0; omega, by omega, by have := HI.out.x1; have := HK.out; omega⟩
                go_wp2_with (go_at_call 95; with_reducible refine Calls.mono (mean_v (w.heap.size + 1 + 1 + 1) (i * 4) ((colT Q A rho r v) i) r _ (HS2.out.s i hil) hr HUP.out.2.2) ?_; rintro e w4 ⟨rfl, hb4⟩; have HS3 := hid (HS2.out.below hb4); clear hb4; obtain ⟨u0, u1, u2, u3, c0, c1, c2, c3, f0, f1, f2, f3⟩ := ox_four HS3.out.o (q := q) (i := i) (by have := HQN.out; omega); have HS4 := hid (HS3.out.pix (p := meanX ((colT Q A rho r v) i) (r : Int)) (HQ.out i) HII.out))
                go_roundg (KW - (i + 1))
                case measure => omega
                case rel => exact ⟨i + 1, by omega, rfl, by simp, HS4.out.im (by rw [← put_step, col_mean])⟩
              · obtain rfl : KW = i := by omega
                go_wp2
                go_meet
                case rel => exact HS2.out.im (by rw [show A.x0 + (KW : Int) = A.x1 by have := HK.out; omega, area_row A _ _ hm, show v - (r : Int) + 1 = v + 1 - (r : Int) by omega])
          · go_wp2
            go_meet
            case rel => exact HS.out.im (by rw [area_ahead A _ _ (by omega), area_ahead A _ _ (by omega)])
        case rest =>
          have HS := hid hcut
          obtain ⟨w5, rfl⟩ : ∃ w5, w5 = wc := ⟨_, rfl⟩
          clear hcut d0 d1 d2 d3 df b0 b1 b2 b3 b4 bf
          obtain ⟨d0, d1, d2, d3, df⟩ := HS.out.a
          obtain ⟨e0, e1, e2, e3, e4, ef⟩ := HS.out.q
          by_cases ho : Q.y0 ≤ v - 2 * (r : Int)
          · by_cases ho2 : v - 2 * (r : Int) < Q.y1
            · have HI : Hid (In Q A.x0 A.x1 (v - 2 * (r : Int))) := ⟨ho, ho2, a6, by omega, a7⟩
              go_wp2_with (go_at_call 85; with_reducible refine Calls.mono (row_at Q qn qm qg qoff A.x0 A.x1 (v - 2 * (r : Int)) KW _ HL.out.oq HI.out HK.out hKW0 HNN.out.2 hqn hqm hqx) ?_; rintro e w2 ⟨rfl, hb2⟩; have HS1 := hid (HS.out.below hb2); clear hb2)
              clear d0 d1 d2 d3 df e0 e1 e2 e3 e4 ef
              go_loopg [103] KW (fun gh vc wr => ∃ i : Nat, i ≤ KW ∧ gh = KW - i ∧ vc = .int .i64 (i : Int) ∧ Ss w lo g off n m B (areaG ⟨A.x0, A.y0, A.x1, v + 1 - (r : Int)⟩ (colG (atX Q rho) r) F) qg qoff qn qm Q rho w.heap.size (w.heap.size + 1) (w.heap.size + 1 + 1) (w.heap.size + 1 + 1 + 1) A KW (part i (colS Q A rho r (v + 1)) (colT Q A rho r v)) wr)
              case atStart => exact ⟨0, Nat.zero_le _, rfl, rfl, HS1.out.re (fun i _ => part_none _ _ i)⟩
              case round =>
                clear HS1
                obtain ⟨i, hi, rfl, rfl, hS⟩ := hrel
                have HS2 := hid hS
                clear hS
                by_cases hil : i < KW
                · have hiz : (i : Int) < (KW : Int) := by omega
                  have hi6 : (i : Int) < 256 := by omega
                  have hx : Hid ((line (fun x => rho x (v - 2 * (r : Int))) A.x0 A.x1)[i]? = some (rho (A.x0 + (i : Int)) (v - 2 * (r : Int)))) := line_get _ _ _ (by have := HK.out; omega)
                  obtain ⟨p, hp⟩ : ∃ p, p = rho (A.x0 + (i : Int)) (v - 2 * (r : Int)) := ⟨_, rfl⟩
                  rw [← hp] at hx
                  have HP : Hid (byteX p ∧ subX ((colT Q A rho r v) i) p = (colS Q A rho r (v + 1)) i) := by
                    refine ⟨by rw [hp]; exact HB.out _ _, ?_⟩
                    rw [hp]
                    have := col_out Q A rho r v i
                    unfold atX at this
                    rwa [if_pos (show hasB Q (A.x0 + (i : Int)) (v - 2 * (r : Int)) = true from decide_eq_true (by have := HK.out; omega))] at this
                  have HUP := hid (col_up (Q := Q) (A := A) HB.out hr v i)
                  have HUP2 := hid (col_up (Q := Q) (A := A) HB.out hr (v + 1) i)
                  clear hp
                  obtain ⟨-, t0, t1, t2, t3⟩ := vx_at (vx_row HS2.out.v HI.out HK.out) hx.out
                  have HS3 := hid (HS2.out.below ((Below.refl _ _).alloc (Nat.le_refl _) (.cells #[.int .u8 p.c0, .int .u8 p.c1, .int .u8 p.c2, .int .u8 p.c3] 28)))
                  go_wp2
                  go_region_with (go_at_call 96; with_reducible refine Calls.mono (take_any (w.heap.size + 1 + 1 + 1) (i * 4) ((colT Q A rho r v) i) p _ (us_re ((HS3.out.below (by first | with_reducible exact Below.refl _ _ | with_reducible exact (Below.refl _ _).drew | with_reducible exact below_drewN (Below.refl _ _) _)).s i hil) (part_same _ _ _)) (by rw [HP.out.2]; exact HUP2.out.1) HP.out.1) ?_; rintro e w3 ⟨rfl, hu, hc⟩; rw [HP.out.2] at hu; have HS4 := hid (Ss.sum (S' := part (i + 1) (colS Q A rho r (v + 1)) (colT Q A rho r v)) (HS3.out.below (by first | with_reducible exact Below.refl _ _ | with_reducible exact (Below.refl _ _).drew | with_reducible exact below_drewN (Below.refl _ _) _)) hu hc (part_new _ _ _) (fun j _ hj => part_old _ _ _ hj)); clear hu hc)
                  all_goals
                    go_wp2
                    go_roundg (KW - (i + 1))
                    case measure => omega
                    case rel => exact ⟨i + 1, by omega, rfl, by simp, HS4.out⟩
                · obtain rfl : KW = i := by omega
                  go_wp2
                  go_roundg (A.y1 + (r : Int) - (v + 1)).toNat
                  case measure => omega
                  case rel => exact ⟨v + 1, by omega, by omega, rfl, rfl, HS2.out.re (fun i hi => part_all _ _ hi)⟩
            · go_wp2
              go_roundg (A.y1 + (r : Int) - (v + 1)).toNat
              case measure => omega
              case rel =>
                refine ⟨v + 1, by omega, by omega, rfl, rfl, HS.out.re (fun i hi => ?_)⟩
                have := col_out Q A rho r v i
                unfold atX at this
                rw [if_neg (by unfold hasB; simp only [decide_eq_true_eq]; omega), sub_no] at this
                exact this.symm
          · go_wp2
            go_roundg (A.y1 + (r : Int) - (v + 1)).toNat
            case measure => omega
            case rel =>
              refine ⟨v + 1, by omega, by omega, rfl, rfl, HS.out.re (fun i hi => ?_)⟩
              have := col_out Q A rho r v i
              unfold atX at this
              rw [if_neg (by unfold hasB; simp only [decide_eq_true_eq]; omega), sub_no] at this
              exact this.symm
    · obtain rfl : A.y1 + (r : Int) = v := by omega
      go_wp2
      refine bodyPost_end (v := .tuple #[]) (by simp [results, Try.results87, go_sem]) rfl ⟨rfl, ?_, HS.out.but⟩
      have := HS.out.o
      rwa [show A.y1 + (r : Int) - (r : Int) = A.y1 by omega] at this
end Go.Proofs.Ytfgfgfmimejpdaa
