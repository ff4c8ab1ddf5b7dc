/- Copying into a buffer: the contract. -/
import Derived.Test.YtfgfgfmimejpdaaCopyS
import Derived.Deep.DeepCutAuto
namespace Go.Proofs.Ytfgfgfmimejpdaa
open Num Go.RowKit
set_option linter.unusedVariables false
set_option linter.unusedSimpArgs false
attribute [local go_sem ↓] run_cp run_cl

set_option maxRecDepth 100000 in
set_option maxHeartbeats 4000000 in
theorem copy_any (lo k g off n m : Nat) (ao : Option Addr) (B : R) (f : Int → Int → X) (F : R) (fo : Option Addr) (fn fm fg foff : Nat) (E : Int → Int → X) (a b c d dx dy : Int) (w : World) (hn : n ≤ 5000) (h : bufB B n = true) (h5 : Has5 w k B ao n m) (hO : Ox lo w ao n m g off (img B f)) (hkg : 0 < m → k ≠ g) (hfn : fn ≤ 5000) (hF : bufB F fn = true) (hV : Vx w fo fn fm fg foff (img F E)) (hfg : 0 < m → 0 < fn → fg ≠ g) (hdx : -4398046511104 ≤ dx ∧ dx ≤ 4398046511104) (hdy : -4398046511104 ≤ dy ∧ dy ≤ 4398046511104) :
    Calls Try.prog 41 #[.pointer (some ⟨k, 0, none⟩), .agg #[.int .i64 F.x0, .int .i64 F.y0, .int .i64 F.x1, .int .i64 F.y1, .slice fo fn fm], .agg #[.int .i64 a, .int .i64 b, .int .i64 c, .int .i64 d], .int .i64 dx, .int .i64 dy] w fun e w' => e = .returned (.tuple #[]) ∧ Has5 w' k B ao n m ∧ Ox lo w' ao n m g off (img B (copyG ⟨a, b, c, d⟩ (atX F E) dx dy f)) ∧ But g w w' := by
  have hn2 : n ≤ 9223372036854775807 := by omega
  have hfn2 : fn ≤ 9223372036854775807 := by omega
  have hOB : Ok B := by
    rcases buf_cases h with ⟨e1, e2, -⟩ | ⟨e1, e2, e3⟩
    · rw [e2]; exact ok_nil
    · exact ok_of_right e2
  have hOF : Ok F := by
    rcases buf_cases hF with ⟨e1, e2, -⟩ | ⟨e1, e2, e3⟩
    · rw [e2]; exact ok_nil
    · exact ok_of_right e2
  have hnB : n = wid B * hei B := by rw [← vx_len hO.v, img_len]
  have hnF : fn = wid F * hei F := by rw [← vx_len hV, img_len]
  have HX := hid (And.intro h5 (And.intro hO (And.intro h hkg)))
  have HY := hid (And.intro hF (And.intro hV hfg))
  have HN := hid (And.intro hOB (And.intro hnB (And.intro hO.v.le (And.intro hO.v.max trivial))))
  have HNF := hid (And.intro hOF (And.intro hnF (And.intro hV.le (And.intro hV.max trivial))))
  obtain ⟨dx0, dx1⟩ := hdx
  obtain ⟨dy0, dy1⟩ := hdy
  have HB : Hid (Below w.heap.size w ((w.alloc (.cells #[.int .i64 F.x0, .int .i64 F.y0, .int .i64 F.x1, .int .i64 F.y1, .slice fo fn fm] 26)).alloc (.cells #[.int .i64 a, .int .i64 b, .int .i64 c, .int .i64 d] 23))) := ((Below.refl _ _).alloc (Nat.le_refl _) _).alloc (by simp) _
  have HS : Hid (Has5 ((w.alloc (.cells #[.int .i64 F.x0, .int .i64 F.y0, .int .i64 F.x1, .int .i64 F.y1, .slice fo fn fm] 26)).alloc (.cells #[.int .i64 a, .int .i64 b, .int .i64 c, .int .i64 d] 23)) w.heap.size F fo fn fm) := (Has5.new rfl _ _ _ _ _ _ _ _).alloc _
  have HR : Hid (Rc.Has4 ((w.alloc (.cells #[.int .i64 F.x0, .int .i64 F.y0, .int .i64 F.x1, .int .i64 F.y1, .slice fo fn fm] 26)).alloc (.cells #[.int .i64 a, .int .i64 b, .int .i64 c, .int .i64 d] 23)) (w.heap.size + 1) (.int .i64 a) (.int .i64 b) (.int .i64 c) (.int .i64 d)) := Rc.Has4.new (by simp) _ _ _ _ _
  clear h h5 hO hkg hF hV hfg hOB hOF hnB hnF
  obtain ⟨M, hM⟩ : ∃ M, M = meet B ⟨a, b, c, d⟩ := ⟨_, rfl⟩
  have HM : Hid (M = meet ⟨B.x0, B.y0, B.x1, B.y1⟩ ⟨a, b, c, d⟩) := hM
  obtain ⟨C, hC⟩ : ∃ C, C = meet M (sh F dx dy) := ⟨_, rfl⟩
  have HC : Hid (C = meet ⟨M.x0, M.y0, M.x1, M.y1⟩ ⟨cutN (F.x0 + dx), cutN (F.y0 + dy), cutN (F.x1 + dx), cutN (F.y1 + dy)⟩) := hC
  clear hM hC
  obtain ⟨s0, s1, s2, s3, s4, sf⟩ := HS.out
  go_enter Try.func41, Try.ntmps41
  go_wp2_with (first
    | (go_at_call 64; with_reducible refine Calls.mono (usable_yes k B ao n m _ hn2 HX.out.2.2.1 (HX.out.1.below HB.out)) ?_; rintro e w0 ⟨rfl, hb0⟩; have HB0 := hid (Rc.via HB.out hb0); have HR0 := hid (HR.out.below hb0); have HS0 := hid (HS.out.below hb0); clear hb0 s0 s1 s2 s3 s4 sf; obtain ⟨s0, s1, s2, s3, s4, sf⟩ := HS0.out)
    | (go_at_call 65; with_reducible refine Calls.mono (rasterRight_yes F.x0 F.y0 F.x1 F.y1 fo fn fm _ hfn2 HY.out.1) ?_; rintro e w1 ⟨rfl, hb1⟩; have HB1 := hid (Rc.via HB0.out hb1); have HR1 := hid (HR0.out.below hb1); have HS1 := hid (HS0.out.below hb1); clear hb1 s0 s1 s2 s3 s4 sf))
  have H51 := hid (HX.out.1.below HB1.out)
  have hl1 : w.heap.size + 1 < w1.heap.size := World.block_lt_of_cell? w1 ⟨w.heap.size + 1, 0, none⟩ HR1.out.c0
  have hl2 : k < w1.heap.size := H51.out.lt
  obtain ⟨s0, s1, s2, s3, sf⟩ := HR1.out
  obtain ⟨t0, t1, t2, t3, t4, tf⟩ := H51.out
  have hS : S8 w1 k (w.heap.size + 1) B.x0 B.y0 B.x1 B.y1 a b c d w1 := ⟨⟨t0, t1, t2, t3, s0, s1, s2, s3⟩, Below.refl _ _⟩
  go_cut [10] (fun v10 wx => ∃ ka, v10 = .pointer (some ⟨ka, 0, none⟩) ∧ w1.heap.size ≤ ka ∧ Rc.Has4 wx ka (.int .i64 M.x0) (.int .i64 M.y0) (.int .i64 M.x1) (.int .i64 M.y1) ∧ Below w1.heap.size w1 wx)
  case first =>
    go_region_held3 (fun w' => (w'.cell? ⟨k, 0, none⟩ = some (.int .i64 B.x0) ∧ w'.cell? ⟨k, 1, none⟩ = some (.int .i64 B.y0) ∧ w'.cell? ⟨k, 2, none⟩ = some (.int .i64 B.x1) ∧ w'.cell? ⟨k, 3, none⟩ = some (.int .i64 B.y1) ∧ w'.cell? ⟨(w.heap.size + 1), 0, none⟩ = some (.int .i64 a) ∧ w'.cell? ⟨(w.heap.size + 1), 1, none⟩ = some (.int .i64 b) ∧ w'.cell? ⟨(w.heap.size + 1), 2, none⟩ = some (.int .i64 c) ∧ w'.cell? ⟨(w.heap.size + 1), 3, none⟩ = some (.int .i64 d)) ∧ Below w1.heap.size w1 w') (repeat (first | with_reducible assumption | with_reducible refine s8_drew ?_ | with_reducible refine s8_alloc ?_ | with_reducible refine s8_set ?_ (by omega) (by omega) (by omega) | with_reducible refine s8_below ?_ ‹_›))
      ((first
      | (go_at_call 42; with_reducible refine Calls.mono (Rc.meet_any B.x0 B.y0 B.x1 B.y1 a b c d _) ?_; rintro e w2 ⟨rfl, hb2⟩; rw [← HM.out]; have HA2 := hid (((Rc.Has4.new (W := w1) (k := w1.heap.size) rfl (.int .i64 0) (.int .i64 0) (.int .i64 0) (.int .i64 0) 23).below (Below.refl _ _).drew).below hb2); obtain ⟨p0, p1, p2, p3, pf⟩ := HA2.out)
      | (go_at_call 42; with_reducible refine Calls.mono (Rc.meet_any B.x0 B.y0 B.x1 B.y1 a b c d _) ?_; rintro e w2 ⟨rfl, hb2⟩; rw [← HM.out]; have hz2 : w1.heap.size ≤ w2.heap.size := drew_le hb2)))
    · rename_i hHeld
      go_wp2_with fail
      go_meet
      case rel => exact ⟨w2.heap.size, rfl, hz2, Rc.Has4.new rfl _ _ _ _ _, hHeld.2⟩
    · rename_i hHeld
      go_wp2_with fail
      go_meet
      case rel => exact ⟨w1.heap.size, rfl, Nat.le_refl _, has4_set HA2.out _ _ _ _, hHeld.2⟩
  case rest =>
    obtain ⟨ka, rfl, hka, hA3, hB3⟩ := hcut
    obtain ⟨w3, rfl⟩ : ∃ w3, w3 = wc := ⟨_, rfl⟩
    clear hS s0 s1 s2 s3 sf t0 t1 t2 t3 t4 tf
    have HA3 := hid hA3
    have HB3 := hid hB3
    have HS3 := hid (HS1.out.below hB3)
    have hz3 := hB3.size
    have hl3 : ka < w3.heap.size := hA3.lt
    clear hA3 hB3
    obtain ⟨s0, s1, s2, s3, s4, sf⟩ := HS3.out
    obtain ⟨t0, t1, t2, t3, tf⟩ := HA3.out
    have hS : S8 w3 ka w.heap.size M.x0 M.y0 M.x1 M.y1 F.x0 F.y0 F.x1 F.y1 w3 := ⟨⟨t0, t1, t2, t3, s0, s1, s2, s3⟩, Below.refl _ _⟩
    go_wp2
    go_cut [11] (fun v11 wx => ∃ kc, v11 = .pointer (some ⟨kc, 0, none⟩) ∧ w3.heap.size ≤ kc ∧ Rc.Has4 wx kc (.int .i64 C.x0) (.int .i64 C.y0) (.int .i64 C.x1) (.int .i64 C.y1) ∧ Below w3.heap.size w3 wx)
    case first =>
      go_region_held3 (fun w' => (w'.cell? ⟨ka, 0, none⟩ = some (.int .i64 M.x0) ∧ w'.cell? ⟨ka, 1, none⟩ = some (.int .i64 M.y0) ∧ w'.cell? ⟨ka, 2, none⟩ = some (.int .i64 M.x1) ∧ w'.cell? ⟨ka, 3, none⟩ = some (.int .i64 M.y1) ∧ w'.cell? ⟨w.heap.size, 0, none⟩ = some (.int .i64 F.x0) ∧ w'.cell? ⟨w.heap.size, 1, none⟩ = some (.int .i64 F.y0) ∧ w'.cell? ⟨w.heap.size, 2, none⟩ = some (.int .i64 F.x1) ∧ w'.cell? ⟨w.heap.size, 3, none⟩ = some (.int .i64 F.y1)) ∧ Below w3.heap.size w3 w') (repeat (first | with_reducible assumption | with_reducible refine s8_drew ?_ | with_reducible refine s8_alloc ?_ | with_reducible refine s8_set ?_ (by omega) (by omega) (by omega) | with_reducible refine s8_below ?_ ‹_›))
        ((first
        | (go_at_call 66; with_reducible refine Calls.mono (shifted_any F.x0 F.y0 F.x1 F.y1 dx dy _ HNF.out.1 ⟨dx0, dx1⟩ ⟨dy0, dy1⟩) ?_; rintro e w4 ⟨rfl, hb4⟩; have HA4 := hid (((Rc.Has4.new (W := w3) (k := w3.heap.size) rfl (.int .i64 0) (.int .i64 0) (.int .i64 0) (.int .i64 0) 23).below (Below.refl _ _).drew).below hb4))
        | (go_at_call 66; with_reducible refine Calls.mono (shifted_any F.x0 F.y0 F.x1 F.y1 dx dy _ HNF.out.1 ⟨dx0, dx1⟩ ⟨dy0, dy1⟩) ?_; rintro e w4 ⟨rfl, hb4⟩; have hz4 : w3.heap.size ≤ w4.heap.size := drew_le hb4)
        | (go_at_call 42; with_reducible refine Calls.mono (Rc.meet_any M.x0 M.y0 M.x1 M.y1 (cutN (F.x0 + dx)) (cutN (F.y0 + dy)) (cutN (F.x1 + dx)) (cutN (F.y1 + dy)) _) ?_; rintro e w5 ⟨rfl, hb5⟩; rw [← HC.out]; have HA5 := hid (HA4.out.below hb5); have D1 := hid trivial; obtain ⟨p0, p1, p2, p3, pf⟩ := HA5.out)
        | (go_at_call 42; with_reducible refine Calls.mono (Rc.meet_any M.x0 M.y0 M.x1 M.y1 (cutN (F.x0 + dx)) (cutN (F.y0 + dy)) (cutN (F.x1 + dx)) (cutN (F.y1 + dy)) _) ?_; rintro e w5 ⟨rfl, hb5⟩; rw [← HC.out]; have HA5 := hid ((Rc.Has4.new (W := w4) (k := w4.heap.size) rfl (.int .i64 0) (.int .i64 0) (.int .i64 0) (.int .i64 0) 23).below hb5); have D2 := hid trivial; obtain ⟨p0, p1, p2, p3, pf⟩ := HA5.out)
        | (go_at_call 42; with_reducible refine Calls.mono (Rc.meet_any M.x0 M.y0 M.x1 M.y1 (cutN (F.x0 + dx)) (cutN (F.y0 + dy)) (cutN (F.x1 + dx)) (cutN (F.y1 + dy)) _) ?_; rintro e w5 ⟨rfl, hb5⟩; rw [← HC.out]; have hz5 : w4.heap.size ≤ w5.heap.size := hb5.size)))
      all_goals
        rename_i hHeld
        go_wp2_with fail
        go_meet
      case rel => exact ⟨w5.heap.size, rfl, Nat.le_trans hz4 hz5, Rc.Has4.new rfl _ _ _ _ _, hHeld.2⟩
      case rel => exact ⟨w4.heap.size, rfl, hz4, has4_set HA5.out _ _ _ _, hHeld.2⟩
      case rel => exact ⟨w3.heap.size, rfl, Nat.le_refl _, has4_set HA5.out _ _ _ _, hHeld.2⟩
    case rest =>
      obtain ⟨kc, rfl, hkc, hC5, hB5⟩ := hcut
      obtain ⟨w6, rfl⟩ : ∃ w6, w6 = wc := ⟨_, rfl⟩
      clear hS s0 s1 s2 s3 s4 sf t0 t1 t2 t3 tf
      have HS6 : Hid (Cs lo w k g off n m ao w.heap.size ka kc B M C F fo fn fm fg foff E f w6) := by
        have hB36 : Below w.heap.size w w3 := HB1.out.trans (HB3.out.mono (by omega))
        have hB6 : Below w.heap.size w w6 := hB36.trans (hB5.mono (by omega))
        refine ⟨HX.out.1.below hB6, HA3.out.below hB5, hC5, HS3.out.below hB5, HX.out.2.1.below hB6, HY.out.2.1.below hB6, But.of hB6, fun hm => ?_⟩
        have hg : g < w.heap.size := (HX.out.2.1.new hm).2
        exact ⟨HX.out.2.2.2 hm, by omega, by omega, by omega, HY.out.2.2 hm⟩
      have hM := meet_edges B ⟨a, b, c, d⟩
      rw [show meet B ⟨a, b, c, d⟩ = M from HM.out.symm] at hM
      obtain ⟨hM1, hM2⟩ := hM
      have HE : Hid (M.y0 < M.y1 → B.x0 ≤ M.x0 ∧ M.x1 ≤ B.x1 ∧ B.y0 ≤ M.y0 ∧ M.y1 ≤ B.y1 ∧ M.x0 < M.x1 ∧ M.y0 < M.y1) := by
        intro hl
        have e : M = meet B ⟨a, b, c, d⟩ := HM.out
        rw [e]
        refine meet_in ?_
        rw [← e]
        rcases he : empB M with _ | _
        · rfl
        · rw [e] at he hl
          unfold meet at he hl
          rcases e2 : empB ⟨mx B.x0 a, mx B.y0 b, mn B.x1 c, mn B.y1 d⟩ with _ | _
          · rw [orN_no e2] at he
            rw [e2] at he
            cases he
          · rw [orN_yes e2] at hl
            unfold nil at hl
            dsimp only at hl
            omega
      obtain ⟨q0, q1, q2, q3, qf⟩ := HS6.out.a
      clear hC5 hB5
      go_wp2
      go_loopg [12] (M.y1 - M.y0).toNat (fun gh v12 wr => ∃ y : Int, M.y0 ≤ y ∧ y ≤ M.y1 ∧ gh = (M.y1 - y).toNat ∧ v12 = .int .i64 y ∧ Cs lo w k g off n m ao w.heap.size ka kc B M C F fo fn fm fg foff E (copyG ⟨M.x0, M.y0, M.x1, y⟩ (atX F E) dx dy f) wr)
      case atStart => exact ⟨M.y0, Int.le_refl _, hM2, rfl, rfl, by rw [copy_start]; exact HS6.out⟩
      case round =>
        clear HS6 q0 q1 q2 q3 qf
        obtain ⟨y, hy0, hy1, rfl, rfl, hF⟩ := hrel
        have HFR := hid hF
        obtain ⟨q0, q1, q2, q3, qf⟩ := hF.a
        by_cases hlt : y < M.y1
        · obtain ⟨i0, i1, i2, i3, i4, i5⟩ := HE.out (by omega)
          have hm0 : 0 < m := by
            have h1 := HN.out.2.1
            have h2 := HN.out.2.2.1
            have h4 : 0 < wid B * hei B := Nat.mul_pos (by unfold wid; omega) (by unfold hei; omega)
            omega
          obtain rfl := hF.o.v.addr hm0
          have HIN : Hid (In B M.x0 M.x1 y) := ⟨by omega, by omega, by omega, by omega, by omega⟩
          have hyb : -4398046511104 ≤ y ∧ y ≤ 4398046511104 := by
            have := HN.out.1.2.1
            have := HN.out.1.2.2.2
            omega
          have HCV : Hid (∀ x, M.x0 ≤ x → x < M.x1 → hasB F (x - dx) (y - dy) = hasB C x y) := by
            intro x hx0 hx1
            have e : C = meet (meet B ⟨a, b, c, d⟩) (sh F dx dy) := by rw [show meet B ⟨a, b, c, d⟩ = M from HM.out.symm]; exact HC.out
            rw [e, cov_has HN.out.1 (by rw [show meet B ⟨a, b, c, d⟩ = M from HM.out.symm]; exact decide_eq_true (by omega))]
          obtain ⟨q, hq⟩ : ∃ q, q = posN B M.x0 y := ⟨_, rfl⟩
          have HQ := hid hq
          obtain ⟨y0b, y1b⟩ := hyb
          by_cases hcov : C.y0 ≤ y ∧ y < C.y1
          · obtain ⟨hc0, hc1⟩ := hcov
            have hCe : C = meet M (sh F dx dy) := HC.out
            obtain ⟨j0, j1, j2, j3, j4, j5⟩ := meet_in (B := M) (r := sh F dx dy) (meet_some (by rw [← hCe]; omega))
            rw [← hCe] at j0 j1 j2 j3 j4 j5
            have f0 := of_decide_eq_true ((HCV.out C.x0 (by omega) (by omega)).trans (decide_eq_true (by omega)))
            have f1 := of_decide_eq_true ((HCV.out (C.x1 - 1) (by omega) (by omega)).trans (decide_eq_true (by omega)))
            have HINF : Hid (In F (C.x0 - dx) (C.x1 - dx) (y - dy)) := ⟨by omega, by omega, by omega, by omega, by omega⟩
            have hfm0 : 0 < fm := by
              have h1 := HNF.out.2.1
              have h2 := HNF.out.2.2.1
              have h4 : 0 < wid F * hei F := Nat.mul_pos (by unfold wid; omega) (by unfold hei; omega)
              omega
            have hfo := hF.v.addr hfm0
            subst hfo
            obtain ⟨L, hL⟩ : ∃ L : Nat, C.x0 - M.x0 = (L : Int) := ⟨(C.x0 - M.x0).toNat, by omega⟩
            obtain ⟨D, hD⟩ : ∃ D : Nat, D = (C.x1 - C.x0).toNat := ⟨_, rfl⟩
            obtain ⟨T, hT⟩ : ∃ T : Nat, T = (M.x1 - C.x1).toNat := ⟨_, rfl⟩
            have hLD : C.x1 - M.x0 = (L : Int) + (D : Int) := by omega
            have HK : Hid ((M.x1 - M.x0).toNat = L + D + T) := by show (M.x1 - M.x0).toNat = L + D + T; omega
            have HP : Hid (D = (C.x1 - C.x0).toNat ∧ T = (M.x1 - C.x1).toNat ∧ posN B C.x0 y = q + L ∧ posN B C.x1 y = q + (L + D) ∧ q + (L + D + T) ≤ n) := by
              have := pos_end ⟨HIN.out.y0, HIN.out.y1⟩ HIN.out.x0 HIN.out.le HIN.out.x1
              have := HN.out.2.1
              have := HK.out
              refine ⟨hD, hT, ?_, ?_, by omega⟩ <;> (rw [HQ.out]; unfold posN; omega)
            have hqn := HP.out.2.2.2.2
            have hnm := HN.out.2.2.1
            obtain ⟨cp, hc⟩ : ∃ cp : Nat, cp = m - q := ⟨_, rfl⟩
            have HCP := hid hc
            have hcc : L + D + T ≤ cp := by omega
            have hcm : cp ≤ 9223372036854775807 := by have := HN.out.2.2.2.1; simp only [maxLen] at this; omega
            have z1 : (L : Int) ≤ (cp : Int) := by omega
            have z2 : (L : Int) ≤ (L : Int) + (D : Int) := by omega
            have z3 : (L : Int) + (D : Int) ≤ (cp : Int) := by omega
            have hS7 : S9c k ka B M (.slice (some ⟨g, off, none⟩) n m) wr := ⟨hF.b.c0, hF.b.c1, hF.b.c2, hF.b.c3, hF.b.c4, hF.a.c0, hF.a.c1, hF.a.c2, hF.a.c3⟩
            clear hF hq hCe f0 f1 hD hT hqn hc
            go_wp2
            go_region_held3 (fun w' => w'.cell? ⟨k, 0, none⟩ = some (.int .i64 B.x0) ∧ w'.cell? ⟨k, 1, none⟩ = some (.int .i64 B.y0) ∧ w'.cell? ⟨k, 2, none⟩ = some (.int .i64 B.x1) ∧ w'.cell? ⟨k, 3, none⟩ = some (.int .i64 B.y1) ∧ w'.cell? ⟨k, 4, none⟩ = some (.slice (some ⟨g, off, none⟩) n m) ∧ w'.cell? ⟨ka, 0, none⟩ = some (.int .i64 M.x0) ∧ w'.cell? ⟨ka, 1, none⟩ = some (.int .i64 M.y0) ∧ w'.cell? ⟨ka, 2, none⟩ = some (.int .i64 M.x1) ∧ w'.cell? ⟨ka, 3, none⟩ = some (.int .i64 M.y1)) (repeat (first | with_reducible assumption | with_reducible refine s9c_drew ?_ | with_reducible refine s9c_below ?_ ‹_›))
              ((go_at_call 67; with_reducible refine Calls.mono (rrow_of B g off n m M.x0 M.x1 y _ HN.out.1 HN.out.2.1 hn HN.out.2.2.1 HN.out.2.2.2.1 HIN.out i4) ?_; rintro e w7 ⟨rfl, hb7⟩; rw [← HQ.out, HK.out, ← HCP.out]; have HD7 := hid ((HFR.out.below (Below.refl _ _).drew).below hb7)))
            clear q0 q1 q2 q3 qf hS7
            obtain ⟨q0, q1, q2, q3, qf⟩ := HD7.out.c
            obtain ⟨t0, t1, t2, t3, tf⟩ := HD7.out.a
            go_wp2
            go_quiet (fail)
            clear q0 q1 q2 q3 qf t0 t1 t2 t3 tf
            have HD8 := hid (HD7.out.below (below_drewN (Below.refl _ _) nq))
            generalize w7.drewN nq = w8 at HD8 ⊢
            have HL1 := hid (HD8.out.clear hm0 (a := M.x0) (b := C.x0) (y := y) ⟨HIN.out.y0, HIN.out.y1, HIN.out.x0, j0, by omega⟩ (K := L) (by omega) (so := some ⟨g, off + q * 4, none⟩) (o := off + q * 4) (fun _ => rfl) (by rw [HQ.out]) (c := cp) 0)
            have hL1 := HL1.out.1
            go_wp2
            have HD9 := hid HL1.out.2
            clear hL1 HL1 HD8
            generalize clW Try.prog #[24] 0 w8 (.slice (some ⟨g, off + q * 4, none⟩) L cp) = w9 at HD9 ⊢
            have hC9 : (-4398046511104 ≤ C.x0 ∧ C.x0 ≤ 4398046511104) ∧ (-4398046511104 ≤ C.x1 ∧ C.x1 ≤ 4398046511104) := by
              have := HN.out.1.1
              have := HN.out.1.2.2.1
              omega
            obtain ⟨⟨e0, e1⟩, e2, e3⟩ := hC9
            have z4 : ((L : Int) + (D : Int)).toNat = L + D := by omega
            have z5 : ¬ cp = L := by have := HP.out.1; omega
            have HDD : Hid ((C.x1 - dx - (C.x0 - dx)).toNat = D) := by have := HP.out.1; show (C.x1 - dx - (C.x0 - dx)).toNat = D; omega
            have hlt2 : C.x0 - dx < C.x1 - dx := by omega
            have HCPF := fun (w' : World) (hb : Below w9.drew.heap.size w9.drew w') => ((HD9.out.below (Below.refl _ _).drew).below hb).cp hm0 (a := C.x0) (b := C.x1) (y := y) (dx := dx) (dy := dy) ⟨HIN.out.y0, HIN.out.y1, by omega, by omega, by omega⟩ HINF.out (K := D) HP.out.1 (o := off + q * 4 + L * 4) (by rw [HP.out.2.2.1]; omega) (o' := foff + posN F (C.x0 - dx) (y - dy) * 4) rfl (c := cp - L) (c' := fm - posN F (C.x0 - dx) (y - dy)) 3
            have g0 : IntKind.i64.wrap (C.x0 - dx) = C.x0 - dx := by rw [IntKind.wrap_i64]; omega
            have g1 : IntKind.i64.wrap (C.x1 - dx) = C.x1 - dx := by rw [IntKind.wrap_i64]; omega
            have g2 : IntKind.i64.wrap (y - dy) = y - dy := by rw [IntKind.wrap_i64]; omega
            have hS9 : S9c w.heap.size kc F C (.slice (some ⟨fg, foff, none⟩) fn fm) w9 := HD9.out.sf
            go_region_held3 (fun w' => w'.cell? ⟨w.heap.size, 0, none⟩ = some (.int .i64 F.x0) ∧ w'.cell? ⟨w.heap.size, 1, none⟩ = some (.int .i64 F.y0) ∧ w'.cell? ⟨w.heap.size, 2, none⟩ = some (.int .i64 F.x1) ∧ w'.cell? ⟨w.heap.size, 3, none⟩ = some (.int .i64 F.y1) ∧ w'.cell? ⟨w.heap.size, 4, none⟩ = some (.slice (some ⟨fg, foff, none⟩) fn fm) ∧ w'.cell? ⟨kc, 0, none⟩ = some (.int .i64 C.x0) ∧ w'.cell? ⟨kc, 1, none⟩ = some (.int .i64 C.y0) ∧ w'.cell? ⟨kc, 2, none⟩ = some (.int .i64 C.x1) ∧ w'.cell? ⟨kc, 3, none⟩ = some (.int .i64 C.y1)) (repeat (first | with_reducible assumption | with_reducible exact Cs.sf (Hid.out HD10).2 | with_reducible refine s9c_drew ?_ | with_reducible refine s9c_below ?_ ‹_›))
              ((go_at_call 67; with_reducible refine Calls.mono (rrow_of F fg foff fn fm (C.x0 - dx) (C.x1 - dx) (y - dy) _ HNF.out.1 HNF.out.2.1 hfn HNF.out.2.2.1 HNF.out.2.2.2.1 HINF.out hlt2) ?_; rintro e w10 ⟨rfl, hb10⟩; rw [HDD.out]; have HD10 := hid (HCPF w10 hb10); have hC10 := HD10.out.1))
            have HD11 := hid HD10.out.2
            clear hC10 HD10 HCPF
            generalize cpW Try.prog #[24, 24] 3 w10 (.slice (some ⟨g, off + q * 4 + L * 4, none⟩) D (cp - L)) (.slice (some ⟨fg, foff + posN F (C.x0 - dx) (y - dy) * 4, none⟩) D (fm - posN F (C.x0 - dx) (y - dy))) = w11 at HD11 ⊢
            have z6 : (L : Int) + (D : Int) ≤ (L : Int) + (D : Int) + (T : Int) := by omega
            have z7 : (L : Int) + (D : Int) + (T : Int) ≤ (cp : Int) := by omega
            have HZ : Hid (∀ w', Cs lo w k g off n m (some ⟨g, off, none⟩) w.heap.size ka kc B M C F (some ⟨fg, foff, none⟩) fn fm fg foff E (putG (putG (putG (copyG ⟨M.x0, M.y0, M.x1, y⟩ (atX F E) dx dy f) y M.x0 C.x0 (fun _ => noX)) y C.x0 C.x1 (fun x => E (x - dx) (y - dy))) y C.x1 M.x1 (fun _ => noX)) w' → Cs lo w k g off n m (some ⟨g, off, none⟩) w.heap.size ka kc B M C F (some ⟨fg, foff, none⟩) fn fm fg foff E (copyG ⟨M.x0, M.y0, M.x1, y + 1⟩ (atX F E) dx dy f) w') := by
              intro w' h1
              rw [copy_part hy0 j0 (by omega) j1 (fun x hx0 hx1 => by
                unfold atX
                rw [HCV.out x hx0 hx1]
                by_cases hx : C.x0 ≤ x ∧ x < C.x1
                · rw [if_pos hx, if_pos (show hasB C x y = true from decide_eq_true (by omega))]
                · rw [if_neg hx, if_neg (by intro h2; have := of_decide_eq_true h2; omega)])] at h1
              exact h1
            by_cases hz : cp = L + D
            · have hT0 : T = 0 := by omega
              subst hz
              subst hT0
              have HL2 := hid (HD11.out.clear hm0 (a := C.x1) (b := M.x1) (y := y) ⟨HIN.out.y0, HIN.out.y1, by omega, by omega, HIN.out.x1⟩ (K := 0) HP.out.2.1 (so := some ⟨g, off + q * 4, none⟩) (o := off + q * 4 + (L + D) * 4) (fun h => absurd h (by omega)) (by rw [HP.out.2.2.2.1]; omega) (c := 0) 0)
              have hL2 := HL2.out.1
              go_wp2
              go_roundg (M.y1 - (y + 1)).toNat
              case measure => omega
              case rel => exact ⟨y + 1, by omega, by omega, rfl, rfl, HZ.out _ HL2.out.2⟩
            · have HL2 := hid (HD11.out.clear hm0 (a := C.x1) (b := M.x1) (y := y) ⟨HIN.out.y0, HIN.out.y1, by omega, by omega, HIN.out.x1⟩ (K := T) HP.out.2.1 (so := some ⟨g, off + q * 4 + (L + D) * 4, none⟩) (o := off + q * 4 + (L + D) * 4) (fun _ => rfl) (by rw [HP.out.2.2.2.1]; omega) (c := cp - (L + D)) 0)
              have hL2 := HL2.out.1
              go_wp2
              go_roundg (M.y1 - (y + 1)).toNat
              case measure => omega
              case rel => exact ⟨y + 1, by omega, by omega, rfl, rfl, HZ.out _ HL2.out.2⟩
          · obtain ⟨K, hK⟩ : ∃ K, K = (M.x1 - M.x0).toNat := ⟨_, rfl⟩
            have HK := hid hK
            have hS7 : S9c k ka B M (.slice (some ⟨g, off, none⟩) n m) wr := ⟨hF.b.c0, hF.b.c1, hF.b.c2, hF.b.c3, hF.b.c4, hF.a.c0, hF.a.c1, hF.a.c2, hF.a.c3⟩
            clear hF hq hK
            go_wp2
            go_region_held3 (fun w' => w'.cell? ⟨k, 0, none⟩ = some (.int .i64 B.x0) ∧ w'.cell? ⟨k, 1, none⟩ = some (.int .i64 B.y0) ∧ w'.cell? ⟨k, 2, none⟩ = some (.int .i64 B.x1) ∧ w'.cell? ⟨k, 3, none⟩ = some (.int .i64 B.y1) ∧ w'.cell? ⟨k, 4, none⟩ = some (.slice (some ⟨g, off, none⟩) n m) ∧ w'.cell? ⟨ka, 0, none⟩ = some (.int .i64 M.x0) ∧ w'.cell? ⟨ka, 1, none⟩ = some (.int .i64 M.y0) ∧ w'.cell? ⟨ka, 2, none⟩ = some (.int .i64 M.x1) ∧ w'.cell? ⟨ka, 3, none⟩ = some (.int .i64 M.y1)) (repeat (first | with_reducible assumption | with_reducible refine s9c_drew ?_ | with_reducible refine s9c_below ?_ ‹_›))
              ((go_at_call 67; with_reducible refine Calls.mono (rrow_of B g off n m M.x0 M.x1 y _ HN.out.1 HN.out.2.1 hn HN.out.2.2.1 HN.out.2.2.2.1 HIN.out i4) ?_; rintro e w7 ⟨rfl, hb7⟩; rw [← HQ.out, ← HK.out]; have HD7 := hid ((HFR.out.below (Below.refl _ _).drew).below hb7)))
            clear q0 q1 q2 q3 qf hS7
            obtain ⟨q0, q1, q2, q3, qf⟩ := HD7.out.c
            have HL := hid (HD7.out.clear hm0 HIN.out HK.out (so := some ⟨g, off + q * 4, none⟩) (o := off + q * 4) (fun _ => rfl) (by rw [HQ.out]) (c := m - q) 0)
            have hL := HL.out.1
            have HZ : Hid (Cs lo w k g off n m (some ⟨g, off, none⟩) w.heap.size ka kc B M C F fo fn fm fg foff E (copyG ⟨M.x0, M.y0, M.x1, y + 1⟩ (atX F E) dx dy f) (clW Try.prog #[24] 0 w7 (.slice (some ⟨g, off + q * 4, none⟩) K (m - q)))) := by
              have h1 := HL.out.2
              rw [copy_bare hy0 (fun x hx0 hx1 => by
                unfold atX
                rw [HCV.out x hx0 hx1, if_neg]
                intro h2
                have := of_decide_eq_true h2
                omega)] at h1
              exact h1
            by_cases hc1 : y < C.y0
            · go_wp2
              go_roundg (M.y1 - (y + 1)).toNat
              case measure => omega
              case rel => exact ⟨y + 1, by omega, by omega, rfl, rfl, HZ.out⟩
            · have hc2 : C.y1 ≤ y := by omega
              go_wp2
              go_roundg (M.y1 - (y + 1)).toNat
              case measure => omega
              case rel => exact ⟨y + 1, by omega, by omega, rfl, rfl, HZ.out⟩
        · obtain rfl : M.y1 = y := by omega
          clear hF
          go_wp2
          refine bodyPost_end (v := .tuple #[]) (by simp [results, Try.results41, go_sem]) rfl ⟨rfl, HFR.out.b, ?_, HFR.out.but⟩
          rw [← copy_meet, show meet B ⟨a, b, c, d⟩ = M from HM.out.symm]
          exact HFR.out.o
end Go.Proofs.Ytfgfgfmimejpdaa
