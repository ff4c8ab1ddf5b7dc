/- What right pixels make is right; by nought and nought nothing changes; no condition. -/
import Derived.Test.YtfkbdpbgeglgaaaRows
import Derived.WalkKit
import Derived.ProofKit
import Derived.OpenShut
import Derived.Test.YtfkbdpbgeglgaaaOpen
import Derived.Test.YtfkbdpbgeglgaaaKit
import Derived.Test.YtfkbdpbgeglgaaaPxRight
import Derived.Deep.RegionHeld3
namespace Go.Proofs.Ytfkbdpbgeglgaaa.morphRight
open Go.ChangeShapes Go.WideShapes Go.ChangeAt Go.RowKit Num
set_option linter.unusedVariables false
set_option linter.unusedSimpArgs false
theorem mor1_mono {U A : Int → Int → Int} (h : ∀ u v, U u v ≤ A u v) (t : Bool) (rx ry : Nat) (x y : Int) : mor1 t U rx ry x y ≤ mor1 t A rx ry x y := by
  obtain ⟨⟨u1, v1, a1, a2, a3, a4, a5⟩, a6⟩ := mor_of t U rx ry x y
  obtain ⟨⟨u2, v2, b1, b2, b3, b4, b5⟩, b6⟩ := mor_of t A rx ry x y
  cases t with
  | false =>
    have h1 : A u1 v1 ≤ mor1 false A rx ry x y := b6 u1 v1 a1 a2 a3 a4
    have h2 := h u1 v1
    rw [a5] at h2
    omega
  | true =>
    have h1 : mor1 true U rx ry x y ≤ U u2 v2 := a6 u2 v2 b1 b2 b3 b4
    have h2 := h u2 v2
    rw [b5] at h2
    omega
theorem mor_right {g : Int → Int → X} (h : ∀ x y, rightX (g x y)) (t : Bool) (rx ry : Nat) (x y : Int) : rightX (morX t g rx ry x y) :=
  ⟨mor1_mono (fun u v => (h u v).1) t rx ry x y, mor1_mono (fun u v => (h u v).2.1) t rx ry x y, mor1_mono (fun u v => (h u v).2.2) t rx ry x y⟩
theorem win_img (D : R) (u : Int → Int → X) : img (orN D) (copyG D u 0 0 fun _ _ => noX) = img (orN D) u := by
  apply img_ext
  intro x y hb
  rw [has_orN] at hb
  unfold copyG
  rw [if_pos hb, show x - 0 = x by omega, show y - 0 = y by omega]
/-- right so far -/
def Fit (l : List X) (j : Nat) : Prop := ∀ i p, i < j → l[i]? = some p → rightX p
theorem fit_all {B : R} {f : Int → Int → X} {n : Nat} (hn : (img B f).length = n) (h : Fit (img B f) n) (x y : Int) : rightX (atX B f x y) := by
  unfold atX
  split
  · rename_i hb
    have hp := pos_of hb
    exact h _ _ (by rw [img_len] at hn; omega) (at_img f hb)
  · exact right_no
abbrev SR (kb kd kc ke kw : Nat) (B : R) (vb : Value) (D : R) (vc ve : Value) (Z : R) (vw : Value) (w' : World) : Prop := ((w'.cell? ⟨kb, 0, none⟩ = some (.int .i64 B.x0) ∧ w'.cell? ⟨kb, 1, none⟩ = some (.int .i64 B.y0) ∧ w'.cell? ⟨kb, 2, none⟩ = some (.int .i64 B.x1) ∧ w'.cell? ⟨kb, 3, none⟩ = some (.int .i64 B.y1) ∧ w'.cell? ⟨kb, 4, none⟩ = some (vb)) ∧ (w'.cell? ⟨kd, 0, none⟩ = some (.int .i64 D.x0) ∧ w'.cell? ⟨kd, 1, none⟩ = some (.int .i64 D.y0) ∧ w'.cell? ⟨kd, 2, none⟩ = some (.int .i64 D.x1) ∧ w'.cell? ⟨kd, 3, none⟩ = some (.int .i64 D.y1))) ∧ (w'.cell? ⟨kc, 4, none⟩ = some (vc) ∧ w'.cell? ⟨ke, 4, none⟩ = some (ve)) ∧ (w'.cell? ⟨kw, 0, none⟩ = some (.int .i64 Z.x0) ∧ w'.cell? ⟨kw, 1, none⟩ = some (.int .i64 Z.y0) ∧ w'.cell? ⟨kw, 2, none⟩ = some (.int .i64 Z.x1) ∧ w'.cell? ⟨kw, 3, none⟩ = some (.int .i64 Z.y1) ∧ w'.cell? ⟨kw, 4, none⟩ = some (vw))
theorem sr_below {kb kd kc ke kw : Nat} {B : R} {vb : Value} {D : R} {vc ve : Value} {Z : R} {vw : Value} {w1 w2 : World} (h : SR kb kd kc ke kw B vb D vc ve Z vw w1) (hb : Below w1.heap.size w1 w2) : SR kb kd kc ke kw B vb D vc ve Z vw w2 := by
  obtain ⟨⟨⟨a0, a1, a2, a3, a4⟩, b0, b1, b2, b3⟩, ⟨c4, e4⟩, f0, f1, f2, f3, f4⟩ := h
  have e1 := fun o => World.cell?_of_block (a := ⟨kb, o, none⟩) (hb.block kb (World.block_lt_of_cell? w1 ⟨kb, 0, none⟩ a0))
  have e2 := fun o => World.cell?_of_block (a := ⟨kd, o, none⟩) (hb.block kd (World.block_lt_of_cell? w1 ⟨kd, 0, none⟩ b0))
  have e3 := fun o => World.cell?_of_block (a := ⟨kc, o, none⟩) (hb.block kc (World.block_lt_of_cell? w1 ⟨kc, 4, none⟩ c4))
  have e5 := fun o => World.cell?_of_block (a := ⟨ke, o, none⟩) (hb.block ke (World.block_lt_of_cell? w1 ⟨ke, 4, none⟩ e4))
  have e6 := fun o => World.cell?_of_block (a := ⟨kw, o, none⟩) (hb.block kw (World.block_lt_of_cell? w1 ⟨kw, 0, none⟩ f0))
  exact ⟨⟨⟨by rw [e1]; exact a0, by rw [e1]; exact a1, by rw [e1]; exact a2, by rw [e1]; exact a3, by rw [e1]; exact a4⟩, by rw [e2]; exact b0, by rw [e2]; exact b1, by rw [e2]; exact b2, by rw [e2]; exact b3⟩, ⟨by rw [e3]; exact c4, by rw [e5]; exact e4⟩, by rw [e6]; exact f0, by rw [e6]; exact f1, by rw [e6]; exact f2, by rw [e6]; exact f3, by rw [e6]; exact f4⟩
theorem sr_drew {kb kd kc ke kw : Nat} {B : R} {vb : Value} {D : R} {vc ve : Value} {Z : R} {vw : Value} {w1 : World} (h : SR kb kd kc ke kw B vb D vc ve Z vw w1) : SR kb kd kc ke kw B vb D vc ve Z vw w1.drew := sr_below h (Below.refl _ _).drew

set_option maxRecDepth 100000 in
set_option maxHeartbeats 4000000 in
theorem walk (B : R) (ao : Option Addr) (n m g off : Nat) (l : List X) (D : R) (rx ry : Int) (W : World) (h : Vx W ao n m g off l) (hp : ∀ p, p ∈ l → byteX p) :
    Calls Try.prog 5 #[.agg #[.int .i64 B.x0, .int .i64 B.y0, .int .i64 B.x1, .int .i64 B.y1, .slice ao n m], .agg #[.int .i64 D.x0, .int .i64 D.y0, .int .i64 D.x1, .int .i64 D.y1], .int .i64 rx, .int .i64 ry] W fun e w' => e = .returned (.bool true) ∧ Below W.heap.size W w' := by
  have hn := vx_small h
  have HX : Hid (Kx W B D ao n m ((W.alloc (.cells #[.int .i64 B.x0, .int .i64 B.y0, .int .i64 B.x1, .int .i64 B.y1, .slice ao n m] 26)).alloc (.cells #[.int .i64 D.x0, .int .i64 D.y0, .int .i64 D.x1, .int .i64 D.y1] 23))) := kx_new W B D ao n m
  obtain ⟨b0, b1, b2, b3, b4, bf⟩ := HX.out.b
  obtain ⟨r0, r1, r2, r3, rf⟩ := HX.out.d
  rcases hF : fineQ B n D rx ry with _ | _
  · have HR := hid hF
    clear hF h hp
    go_enter Try.func5, Try.ntmps5
    go_wp2_with (first | (go_at_call 9; with_reducible refine Calls.mono (awake_any _) ?_; rintro e wc ⟨rfl, hb⟩; replace HX := hid (HX.out.below hb); clear hb; clear b0 b1 b2 b3 b4 bf r0 r1 r2 r3 rf; obtain ⟨b0, b1, b2, b3, b4, bf⟩ := HX.out.b; obtain ⟨r0, r1, r2, r3, rf⟩ := HX.out.d) | (go_at_call 10; with_reducible refine Calls.mono (fine_any B ao n m D rx ry _ hn) ?_; rintro e wc ⟨rfl, hb⟩; rw [HR.out]; replace HX := hid (HX.out.below hb); clear hb; clear b0 b1 b2 b3 b4 bf r0 r1 r2 r3 rf; obtain ⟨b0, b1, b2, b3, b4, bf⟩ := HX.out.b; obtain ⟨r0, r1, r2, r3, rf⟩ := HX.out.d))
    go_ret
    exact ⟨rfl, HX.out.low⟩
  obtain ⟨a, b, hG⟩ := good8 hF
  have hU := bu_of h hp hG
  have hrx := hG.hrx
  have hry := hG.hry
  have HR := hid hF
  clear hF hp
  subst hrx
  subst hry
  obtain ⟨f, hf⟩ : ∃ f, f = unimg B l := ⟨_, rfl⟩
  have e1 := hU.im
  rw [← hf] at e1
  have HU : Hid (n ≤ 5000 ∧ bufB B n = true ∧ (∀ x y, byteX (f x y)) ∧ Ok B ∧ Half D ∧ area (grow D (a : Int) (b : Int) (a : Int) (b : Int)) ≤ 5000 ∧ a ≤ 255 ∧ b ≤ 255 ∧ area D ≤ 5000) := ⟨hU.n5, hU.buf, by rw [hf]; exact hU.byt, hU.ok, hU.half, hU.few, hU.a, hU.b, Int.le_trans (grow_area hU.half hU.a hU.b) hU.few⟩
  subst e1
  have HV := hid h
  have HLN := hid (vx_len h)
  obtain ⟨Z, hZ⟩ : ∃ Z, Z = orN D := ⟨_, rfl⟩
  have HZ := hid hZ.symm
  have HDO : Hid (Ok D) := hU.half.ok
  clear hU hG h hf hZ
  go_enter Try.func5, Try.ntmps5
  go_wp2_with (first | (go_at_call 9; with_reducible refine Calls.mono (awake_any _) ?_; rintro e wc ⟨rfl, hb⟩; replace HX := hid (HX.out.below hb); clear hb; clear b0 b1 b2 b3 b4 bf r0 r1 r2 r3 rf; obtain ⟨b0, b1, b2, b3, b4, bf⟩ := HX.out.b; obtain ⟨r0, r1, r2, r3, rf⟩ := HX.out.d) | (go_at_call 10; with_reducible refine Calls.mono (fine_any B ao n m D (a : Int) (b : Int) _ hn) ?_; rintro e wc ⟨rfl, hb⟩; rw [HR.out]; replace HX := hid (HX.out.below hb); clear hb; clear b0 b1 b2 b3 b4 bf r0 r1 r2 r3 rf; obtain ⟨b0, b1, b2, b3, b4, bf⟩ := HX.out.b; obtain ⟨r0, r1, r2, r3, rf⟩ := HX.out.d))
  clear b0 b1 b2 b3 b4 bf r0 r1 r2 r3 rf
  go_loopg [9] n (fun gh v9 wr => ∃ i : Nat, i ≤ n ∧ gh = n - i ∧ v9 = .int .i64 (i : Int) ∧ Fit (img B f) i ∧ Kx W B D ao n m wr)
  case atStart => exact ⟨0, Nat.zero_le _, rfl, rfl, fun i p h => absurd h (Nat.not_lt_zero _), HX.out⟩
  case round =>
    clear HX
    obtain ⟨i, hi, rfl, rfl, hFit, hX⟩ := hrel
    have HX := hid hX
    have HF := hid hFit
    obtain ⟨b0, b1, b2, b3, b4, bf⟩ := hX.b
    obtain ⟨r0, r1, r2, r3, rf⟩ := hX.d
    clear hX hFit
    by_cases hil : i < n
    · have hiz : (i : Int) < (n : Int) := by omega
      obtain ⟨p, hp⟩ : ∃ p, (img B f)[i]? = some p := ⟨_, List.getElem?_eq_getElem (by rw [HLN.out]; exact hil)⟩
      have HP := hid hp
      obtain ⟨rfl, t0, t1, t2, t3⟩ := vx_at (HV.out.below HX.out.low) hp
      clear hp
      rcases hR : rgtB p with _ | _
      · have HRG := hid hR
        clear hR
        go_wp2_with (go_at_call 16; with_reducible refine Calls.mono (pxRight_any p _) ?_; rintro e w2 ⟨rfl, hb2⟩; rw [HRG.out]; have HX2 := hid (HX.out.below hb2); clear hb2)
        go_ret
        exact ⟨rfl, HX2.out.low⟩
      · have HRG := hid hR
        clear hR
        go_wp2_with (go_at_call 16; with_reducible refine Calls.mono (pxRight_any p _) ?_; rintro e w2 ⟨rfl, hb2⟩; rw [HRG.out]; have HX2 := hid (HX.out.below hb2); clear hb2)
        go_roundg (n - (i + 1))
        case measure => omega
        case rel =>
          refine ⟨i + 1, by omega, rfl, by simp, ?_, HX2.out⟩
          intro j q hj hq
          by_cases hji : j < i
          · exact HF.out j q hji hq
          · obtain rfl : j = i := by omega
            have := HP.out
            rw [hq] at this
            injection this with this
            rw [this]
            exact rgt_of HRG.out
    · obtain rfl : n = i := by omega
      have HRA : Hid (∀ t x y, rightX (morX t (atX B f) a b x y)) := fun t => mor_right (fit_all HLN.out HF.out) t a b
      clear HF
      go_wp2_with (first
        | (go_at_call 14; with_reducible refine Calls.mono (most_any B ao n m g off f D a b _ HU.out.2.1 HU.out.1 (HV.out.below HX.out.low) HU.out.2.2.1 HU.out.2.2.2.2.1 HU.out.2.2.2.2.2.1 HU.out.2.2.2.2.2.2.1 HU.out.2.2.2.2.2.2.2.1) ?_; rintro e w2 ⟨hr, hb2⟩; rw [HZ.out] at hr; obtain ⟨co, cn, cm, cg, coff, rfl, hO, hg1, hg2, hln⟩ := retG hr; have HLC := hid hln; have hal := (Below.refl w2.heap.size w2).alloc (Nat.le_refl _) (.cells #[.int .i64 Z.x0, .int .i64 Z.y0, .int .i64 Z.x1, .int .i64 Z.y1, .slice co cn cm] 26); have HO2 := hid (hO.v.below hal); have H52 := hid (Has5.new (W := w2) (k := w2.heap.size) rfl Z.x0 Z.y0 Z.x1 Z.y1 co cn cm 26); have HX2 := hid ((HX.out.below hb2).below hal); clear hr hO hg1 hg2 hln hb2 hal b0 b1 b2 b3 b4 bf r0 r1 r2 r3 rf; obtain ⟨b0, b1, b2, b3, b4, bf⟩ := HX2.out.b; obtain ⟨r0, r1, r2, r3, rf⟩ := HX2.out.d)
        | (go_at_call 12; with_reducible refine Calls.mono (least_any B ao n m g off f D a b _ HU.out.2.1 HU.out.1 (HV.out.below HX2.out.low) HU.out.2.2.1 HU.out.2.2.2.2.1 HU.out.2.2.2.2.2.1 HU.out.2.2.2.2.2.2.1 HU.out.2.2.2.2.2.2.2.1) ?_; rintro e w3 ⟨hr, hb3⟩; rw [HZ.out] at hr; obtain ⟨do5, dn, dm, dg, doff, rfl, hO, hg1, hg2, hln⟩ := retG hr; have hne : cn = dn := (by have := HLC.out; rw [img_len] at this hln; omega); subst hne; have HO3 := hid hO.v; have HB3 := hid hb3; clear hr hO hg1 hg2 hln hb3))
      have HS0 : Hid ((Vx (w3.alloc (.cells #[.int .i64 Z.x0, .int .i64 Z.y0, .int .i64 Z.x1, .int .i64 Z.y1, .slice do5 cn dm] 26)) co cn cm cg coff (img Z (morX false (atX B f) a b)) ∧ Has5 (w3.alloc (.cells #[.int .i64 Z.x0, .int .i64 Z.y0, .int .i64 Z.x1, .int .i64 Z.y1, .slice do5 cn dm] 26)) w2.heap.size Z co cn cm) ∧ (Vx (w3.alloc (.cells #[.int .i64 Z.x0, .int .i64 Z.y0, .int .i64 Z.x1, .int .i64 Z.y1, .slice do5 cn dm] 26)) do5 cn dm dg doff (img Z (morX true (atX B f) a b)) ∧ Has5 (w3.alloc (.cells #[.int .i64 Z.x0, .int .i64 Z.y0, .int .i64 Z.x1, .int .i64 Z.y1, .slice do5 cn dm] 26)) w3.heap.size Z do5 cn dm) ∧ Kx W B D ao n m (w3.alloc (.cells #[.int .i64 Z.x0, .int .i64 Z.y0, .int .i64 Z.x1, .int .i64 Z.y1, .slice do5 cn dm] 26))) := by
        have hal := (Below.refl w3.heap.size w3).alloc (Nat.le_refl _) (.cells #[.int .i64 Z.x0, .int .i64 Z.y0, .int .i64 Z.x1, .int .i64 Z.y1, .slice do5 cn dm] 26)
        have h9 := Rc.via HB3.out hal
        exact ⟨⟨HO2.out.below h9, H52.out.below h9⟩, ⟨HO3.out.below hal, Has5.new rfl _ _ _ _ _ _ _ _⟩, HX2.out.below h9⟩
      have hcn : cn ≤ 9223372036854775807 := vx_small HO3.out
      have HLD : Hid ((img Z (morX true (atX B f) a b)).length = cn) := by have := HLC.out; rw [img_len] at this; show _ = _; rw [img_len]; exact this
      clear HX HX2 HO2 HO3 H52 HB3 b0 b1 b2 b3 b4 bf r0 r1 r2 r3 rf
      generalize w3.alloc (.cells #[.int .i64 Z.x0, .int .i64 Z.y0, .int .i64 Z.x1, .int .i64 Z.y1, .slice do5 cn dm] 26) = W2 at HS0 ⊢
      generalize w3.heap.size = k11 at HS0 ⊢
      generalize w2.heap.size = k10 at HS0 ⊢
      go_loopg [12] cn (fun gh v12 wr => ∃ i : Nat, i ≤ cn ∧ gh = cn - i ∧ v12 = .int .i64 (i : Int) ∧ (Vx wr co cn cm cg coff (img Z (morX false (atX B f) a b)) ∧ Has5 wr k10 Z co cn cm) ∧ (Vx wr do5 cn dm dg doff (img Z (morX true (atX B f) a b)) ∧ Has5 wr k11 Z do5 cn dm) ∧ Kx W B D ao n m wr)
      case atStart => exact ⟨0, Nat.zero_le _, rfl, rfl, HS0.out.1, HS0.out.2.1, HS0.out.2.2⟩
      case round =>
        clear HS0
        obtain ⟨i, hi, rfl, rfl, ⟨hO, h5⟩, ⟨hP, h6⟩, hX⟩ := hrel
        have HS := hid (And.intro (And.intro hO h5) (And.intro (And.intro hP h6) hX))
        obtain ⟨c0, c1, c2, c3, c4, cf⟩ := h5
        obtain ⟨d0, d1, d2, d3, d4, df⟩ := h6
        by_cases hil : i < cn
        · have hiz : (i : Int) < (cn : Int) := by omega
          obtain ⟨p, hp⟩ : ∃ p, (img Z (morX false (atX B f) a b))[i]? = some p := ⟨_, List.getElem?_eq_getElem (by rw [HLC.out]; exact hil)⟩
          obtain ⟨q, hq⟩ : ∃ q, (img Z (morX true (atX B f) a b))[i]? = some q := ⟨_, List.getElem?_eq_getElem (by rw [HLD.out]; exact hil)⟩
          have HRG : Hid (rgtB p = true ∧ rgtB q = true) := by
            have hl : i < wid Z * hei Z := by have := HLC.out; rw [img_len] at this; omega
            have hp2 := hp
            have hq2 := hq
            rw [img_get Z _ hl] at hp2 hq2
            injection hp2 with hp2
            injection hq2 with hq2
            refine ⟨?_, ?_⟩
            · rw [← hp2]; exact of_rgt (HRA.out _ _ _)
            · rw [← hq2]; exact of_rgt (HRA.out _ _ _)
          have HQ := hid hq
          obtain ⟨rfl, t0, t1, t2, t3⟩ := vx_at hO hp
          obtain ⟨rfl, -⟩ := vx_at hP hq
          clear hp hq hO hP hX
          go_wp2_with (first
            | (go_at_call 16; with_reducible refine Calls.mono (pxRight_any p _) ?_; (fail_if_success have := HS3); rintro e w3 ⟨rfl, hb3⟩; rw [HRG.out.1]; have HS3 := hid (And.intro (And.intro (HS.out.1.1.below hb3) (HS.out.1.2.below hb3)) (And.intro (And.intro (HS.out.2.1.1.below hb3) (HS.out.2.1.2.below hb3)) (HS.out.2.2.below hb3))); clear hb3 d0 d1 d2 d3 d4 df; obtain ⟨d0, d1, d2, d3, d4, df⟩ := HS3.out.2.1.2; obtain ⟨-, v0, v1, v2, v3⟩ := vx_at HS3.out.2.1.1 HQ.out)
            | (go_at_call 16; with_reducible refine Calls.mono (pxRight_any q _) ?_; rintro e w4 ⟨rfl, hb4⟩; rw [HRG.out.2]; have HS4 := hid (And.intro (And.intro (HS3.out.1.1.below hb4) (HS3.out.1.2.below hb4)) (And.intro (And.intro (HS3.out.2.1.1.below hb4) (HS3.out.2.1.2.below hb4)) (HS3.out.2.2.below hb4))); clear hb4))
          go_roundg (cn - (i + 1))
          case measure => omega
          case rel => exact ⟨i + 1, by omega, rfl, by simp, HS4.out.1, HS4.out.2.1, HS4.out.2.2⟩
        · obtain rfl : cn = i := by omega
          have HX := hid hX
          obtain ⟨b0, b1, b2, b3, b4, bf⟩ := hX.b
          obtain ⟨r0, r1, r2, r3, rf⟩ := hX.d
          clear hO hP hX
          go_wp2_with (go_at_call 17; with_reducible refine Calls.mono (refWindow_any B ao n m g off f D _ HU.out.1 HU.out.2.2.2.1 (HV.out.below HX.out.low) HDO.out HU.out.2.2.2.2.2.2.2.2) ?_; rintro e w5 ⟨hr, hb5⟩; rw [win_img, HZ.out] at hr; obtain ⟨fo, fn, fm, fg, foff, rfl, hO5, hg1, hg2, hln⟩ := retG hr; have hne2 : cn = fn := (by have := HLC.out; rw [img_len] at this hln; omega); subst hne2; have HO5 := hid hO5.v; have HB5 := hid hb5; clear hr hO5 hg1 hg2 hln hb5)
          have HT : Hid (SR W.heap.size (W.heap.size + 1) k10 k11 w5.heap.size B (.slice ao n m) D (.slice co cn cm) (.slice do5 cn dm) Z (.slice fo cn fm) (w5.alloc (.cells #[.int .i64 Z.x0, .int .i64 Z.y0, .int .i64 Z.x1, .int .i64 Z.y1, .slice fo cn fm] 26)) ∧ Vx (w5.alloc (.cells #[.int .i64 Z.x0, .int .i64 Z.y0, .int .i64 Z.x1, .int .i64 Z.y1, .slice fo cn fm] 26)) fo cn fm fg foff (img Z (atX B f)) ∧ Kx W B D ao n m (w5.alloc (.cells #[.int .i64 Z.x0, .int .i64 Z.y0, .int .i64 Z.x1, .int .i64 Z.y1, .slice fo cn fm] 26))) := by
            have hal := (Below.refl w5.heap.size w5).alloc (Nat.le_refl _) (.cells #[.int .i64 Z.x0, .int .i64 Z.y0, .int .i64 Z.x1, .int .i64 Z.y1, .slice fo cn fm] 26)
            have h9 := Rc.via HB5.out hal
            have hX9 := HX.out.below h9
            have hc9 := HS.out.1.2.below h9
            have hd9 := HS.out.2.1.2.below h9
            have hw9 := Has5.new (W := w5) (k := w5.heap.size) rfl Z.x0 Z.y0 Z.x1 Z.y1 fo cn fm 26
            exact ⟨⟨⟨⟨hX9.b.c0, hX9.b.c1, hX9.b.c2, hX9.b.c3, hX9.b.c4⟩, hX9.d.c0, hX9.d.c1, hX9.d.c2, hX9.d.c3⟩, ⟨hc9.c4, hd9.c4⟩, hw9.c0, hw9.c1, hw9.c2, hw9.c3, hw9.c4⟩, HO5.out.below hal, hX9⟩
          clear HS HO5 HB5 c0 c1 c2 c3 c4 cf d0 d1 d2 d3 d4 df HX b0 b1 b2 b3 b4 bf r0 r1 r2 r3 rf
          generalize w5.alloc (.cells #[.int .i64 Z.x0, .int .i64 Z.y0, .int .i64 Z.x1, .int .i64 Z.y1, .slice fo cn fm] 26) = W6 at HT ⊢
          generalize w5.heap.size = k13 at HT ⊢
          have hS := HT.out.1
          go_region_held3 (fun w' => ((w'.cell? ⟨W.heap.size, 0, none⟩ = some (.int .i64 B.x0) ∧ w'.cell? ⟨W.heap.size, 1, none⟩ = some (.int .i64 B.y0) ∧ w'.cell? ⟨W.heap.size, 2, none⟩ = some (.int .i64 B.x1) ∧ w'.cell? ⟨W.heap.size, 3, none⟩ = some (.int .i64 B.y1) ∧ w'.cell? ⟨W.heap.size, 4, none⟩ = some (.slice ao n m)) ∧ (w'.cell? ⟨(W.heap.size + 1), 0, none⟩ = some (.int .i64 D.x0) ∧ w'.cell? ⟨(W.heap.size + 1), 1, none⟩ = some (.int .i64 D.y0) ∧ w'.cell? ⟨(W.heap.size + 1), 2, none⟩ = some (.int .i64 D.x1) ∧ w'.cell? ⟨(W.heap.size + 1), 3, none⟩ = some (.int .i64 D.y1))) ∧ (w'.cell? ⟨k10, 4, none⟩ = some (.slice co cn cm) ∧ w'.cell? ⟨k11, 4, none⟩ = some (.slice do5 cn dm)) ∧ (w'.cell? ⟨k13, 0, none⟩ = some (.int .i64 Z.x0) ∧ w'.cell? ⟨k13, 1, none⟩ = some (.int .i64 Z.y0) ∧ w'.cell? ⟨k13, 2, none⟩ = some (.int .i64 Z.x1) ∧ w'.cell? ⟨k13, 3, none⟩ = some (.int .i64 Z.y1) ∧ w'.cell? ⟨k13, 4, none⟩ = some (.slice fo cn fm))) (repeat (first | with_reducible assumption | with_reducible refine sr_drew ?_ | with_reducible refine sr_below ?_ ‹_›))
            ((first
            | (go_at_call 14; with_reducible refine Calls.mono (most_00 B ao n m g off f D _ HU.out.2.1 HU.out.1 (HV.out.below HT.out.2.2.low.drew) HU.out.2.2.1 HU.out.2.2.2.2.1 HU.out.2.2.2.2.2.2.2.2) ?_; rintro e w7 ⟨hr, hb7⟩; rw [HZ.out] at hr; obtain ⟨eo, en, em, eg, eoff, rfl, hO7, hg1, hg2, hln⟩ := retG hr; have hne7 : cn = en := (by have := HLC.out; rw [img_len] at this hln; omega); subst hne7; have HO7 := hid hO7.v; have HB7 := hid (Rc.via ((Below.refl W6.heap.size W6).drew) hb7); clear hr hO7 hg1 hg2 hln)
            | (go_at_call 11; with_reducible refine Calls.mono (same_yes Z eo cn em eg eoff fo fm fg foff _ _ HO7.out (HT.out.2.1.below HB7.out)) ?_; rintro e w8 ⟨rfl, hb8⟩; have HB8 := hid (Rc.via HB7.out hb8))
            | (go_at_call 12; with_reducible refine Calls.mono (least_00 B ao n m g off f D _ HU.out.2.1 HU.out.1 (HV.out.below (Rc.via HT.out.2.2.low HB8.out)) HU.out.2.2.1 HU.out.2.2.2.2.1 HU.out.2.2.2.2.2.2.2.2) ?_; rintro e w9 ⟨hr, hb9⟩; rw [HZ.out] at hr; obtain ⟨go5, gn, gm, gg, goff, rfl, hO9, hg1, hg2, hln⟩ := retG hr; have hne9 : cn = gn := (by have := HLC.out; rw [img_len] at this hln; omega); subst hne9; have HO9 := hid hO9.v; have HB9 := hid (Rc.via HB8.out hb9); clear hr hO9 hg1 hg2 hln)
            | (go_at_call 11; with_reducible refine Calls.mono (same_yes Z go5 cn gm gg goff fo fm fg foff _ _ HO9.out (HT.out.2.1.below HB9.out)) ?_; rintro e w10 ⟨rfl, hb10⟩; have HB10 := hid (Rc.via HB9.out hb10))))
          go_wp2
          go_ret
          exact ⟨rfl, Rc.via HT.out.2.2.low HB10.out⟩

theorem own : ownKnob Try.prog.godebug = none := by kernel_rfl

set_option maxRecDepth 100000 in
theorem lifted (os : Os) (started : os.Started) (H : Type) (enc : TypeId × Value → H) :
    ReturnsInHanded {} Try.checked os 5 .any (Rows.morphRightSpec.pre6 enc Try.prog Try.f5 Rows.morphRightRow.domain false) (Rows.morphRightSpec.post enc Try.prog Try.f5 false true false false) := by
  refine returnsInHanded_of_change (C := Try.checked) own started (by kernel_rfl) Try.func5
    (ChangeSpec.witness6 (enc := enc) (C := Try.checked) false ⟨#[], #[.agg #[.int .i64 0, .int .i64 0, .int .i64 0, .int .i64 0, .slice none 0 0], .agg #[.int .i64 0, .int .i64 0, .int .i64 0, .int .i64 0], .int .i64 0, .int .i64 0], []⟩ 8 (by kernel_rfl) (by kernel_rfl) (by kernel_rfl) (by kernel_rfl)) ?_
  intro W base args ds gs before hval0 hW hcnd _
  have hval : ∀ (j : Nat) t v, Try.f5.params[j]? = some t → args[j]? = some v → Value.okWide Try.prog W .any base t v := hval0
  have hW' := hW
  obtain ⟨p, q, hA0, hV, rfl, hfz, hnd⟩ := hW
  have hA : DataW.TrodAll enc Try.prog W 0 (fun _ => true) true Try.f5.params.toList args.toList ds p := hA0
  rw [Try.params5] at hA hval
  obtain ⟨v0, vs0, d0, ds0, p0, q0, hargs, rfl, rfl, h0, r0⟩ := trodAll_cons hA
  obtain ⟨v1, vs1, d1, ds1, p1, q1, rfl, rfl, rfl, h1, r1⟩ := trodAll_cons r0
  obtain ⟨v2, vs2, d2, ds2, p2, q2, rfl, rfl, rfl, h2, r2⟩ := trodAll_cons r1
  obtain ⟨v3, vs3, d3, ds3, p3, q3, rfl, rfl, rfl, h3, r3⟩ := trodAll_cons r2
  obtain ⟨rfl, rfl, rfl⟩ := trodAll_nil r3
  obtain rfl : args = #[v0, v1, v2, v3] := by cases args; simp_all
  obtain ⟨rfl, rfl⟩ := trodVars_none hV
  obtain ⟨B, ao, n, c, g, off, l, rfl, hv0, hp0⟩ := open_buf (hval 0 26 v0 rfl rfl) h0
  obtain ⟨D, rfl⟩ := open_rect (hval 1 23 v1 rfl rfl) h1
  obtain ⟨rx, rfl, -, -, -⟩ := open_int Try.underlying3 (hval 2 3 v2 rfl rfl) h2
  obtain ⟨ry, rfl, -, -, -⟩ := open_int Try.underlying3 (hval 3 3 v3 rfl rfl) h3
  clear hA0 hval0
  simp only [List.append_nil] at hW'
  have hlt : ∀ x ∈ p0 ++ (p1 ++ (p2 ++ (p3))), x.block < W.heap.size := fun x hx => by simpa using hW'.lt x (by simpa using hx)
  refine (walk B ao n c g off l D rx ry W hv0 hp0).mono fun e W' ⟨he, hg⟩ => ?_
  subst he
  have t0 := Below.trod laidOut (by kernel_rfl) (of_decide_eq_true (by kernel_rfl)) h0 hg (fun x hx => hlt x (List.mem_append_left _ hx))
  have t1 := Below.trod laidOut (by kernel_rfl) (of_decide_eq_true (by kernel_rfl)) h1 hg (fun x hx => hlt x (List.mem_append_right _ (List.mem_append_left _ hx)))
  have t2 := Below.trod laidOut (by kernel_rfl) (of_decide_eq_true (by kernel_rfl)) h2 hg (fun x hx => hlt x (List.mem_append_right _ (List.mem_append_right _ (List.mem_append_left _ hx))))
  have t3 := Below.trod laidOut (by kernel_rfl) (of_decide_eq_true (by kernel_rfl)) h3 hg (fun x hx => hlt x (List.mem_append_right _ (List.mem_append_right _ (List.mem_append_right _ (hx)))))
  exact ⟨_, rfl, ⟨_, _, _, _, _, _, hW', (trodAll_cons_mk (shut_bool Try.underlying4 _) trodAll_mk0), (trodAll_cons_mk t0 (trodAll_cons_mk t1 (trodAll_cons_mk t2 (trodAll_cons_mk t3 trodAll_mk0)))), rfl, hg.frame _, fun h => by cases h⟩⟩

theorem over : Rows.morphRightRow.holds Try.pinned (OpenSpec.ofChange Rows.morphRightSpec) :=
  OpenClaim.holds_of_wide 5 Try.f5 rfl rfl rfl rfl rfl rfl rfl ⟨rfl, rfl, rfl, rfl, rfl⟩ rfl rfl rfl rfl rfl (by kernel_rfl) Try.func5 (by kernel_rfl)
    (of_decide_eq_true (by kernel_rfl)) (by unfold Func.isWrapper; first | (rw [if_pos (by decide +kernel)]; kernel_rfl) | (rw [if_neg (by decide +kernel)]; exact ⟨rfl, rfl⟩))
    (fun os started H enc _ => lifted os started H enc)

theorem proved : Rows.MorphRightSaid := over
#print axioms proved
end Go.Proofs.Ytfkbdpbgeglgaaa.morphRight
