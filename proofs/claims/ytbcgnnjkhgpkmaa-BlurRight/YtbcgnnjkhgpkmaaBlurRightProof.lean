/- What right pixels make is right; by nought and nought nothing changes; no condition. -/
import Derived.Test.YtbcgnnjkhgpkmaaRows
import Derived.WalkKit
import Derived.ProofKit
import Derived.OpenShut
import Derived.Test.YtbcgnnjkhgpkmaaOpen
import Derived.Test.YtbcgnnjkhgpkmaaKit
import Derived.Test.YtbcgnnjkhgpkmaaPxRight
import Derived.Deep.RegionHeld3
namespace Go.Proofs.Ytbcgnnjkhgpkmaa.blurRight
open Go.ChangeShapes Go.WideShapes Go.ChangeAt Go.RowKit Num
set_option linter.unusedVariables false
set_option linter.unusedSimpArgs false
theorem win_img (D : R) (u : Int → Int → X) : img (orN D) (copyG D u 0 0 fun _ _ => noX) = img (orN D) u := by
  apply img_ext
  intro x y hb
  rw [has_orN] at hb
  unfold copyG
  rw [if_pos hb, show x - 0 = x by omega, show y - 0 = y by omega]
/-- right so far -/
def Fit (l : List X) (j : Nat) : Prop := ∀ i p, i < j → l[i]? = some p → rightX p
theorem fit_all {B : R} {f : Int → Int → X} {n : Nat} (hn : (img B f).length = n) (h : Fit (img B f) n) (x y : Int) : rightX (atX B f x y) := by
  unfold atX
  split
  · rename_i hb
    have hp := pos_of hb
    exact h _ _ (by rw [img_len] at hn; omega) (at_img f hb)
  · exact right_no

set_option maxRecDepth 100000 in
set_option maxHeartbeats 4000000 in
theorem walk (B : R) (ao : Option Addr) (n m g off : Nat) (l : List X) (D : R) (rx ry : Int) (W : World) (h : Vx W ao n m g off l) (hp : ∀ p, p ∈ l → byteX p) :
    Calls Try.prog 5 #[.agg #[.int .i64 B.x0, .int .i64 B.y0, .int .i64 B.x1, .int .i64 B.y1, .slice ao n m], .agg #[.int .i64 D.x0, .int .i64 D.y0, .int .i64 D.x1, .int .i64 D.y1], .int .i64 rx, .int .i64 ry] W fun e w' => e = .returned (.bool true) ∧ Below W.heap.size W w' := by
  have hn := vx_small h
  have HX : Hid (Kx W B D ao n m ((W.alloc (.cells #[.int .i64 B.x0, .int .i64 B.y0, .int .i64 B.x1, .int .i64 B.y1, .slice ao n m] 26)).alloc (.cells #[.int .i64 D.x0, .int .i64 D.y0, .int .i64 D.x1, .int .i64 D.y1] 23))) := kx_new W B D ao n m
  obtain ⟨b0, b1, b2, b3, b4, bf⟩ := HX.out.b
  obtain ⟨r0, r1, r2, r3, rf⟩ := HX.out.d
  rcases hF : fineQ B n D rx ry with _ | _
  · have HR := hid hF
    clear hF h hp
    go_enter Try.func5, Try.ntmps5
    go_wp2_with (first | (go_at_call 9; with_reducible refine Calls.mono (awake_any _) ?_; rintro e wc ⟨rfl, hb⟩; replace HX := hid (HX.out.below hb); clear hb; clear b0 b1 b2 b3 b4 bf r0 r1 r2 r3 rf; obtain ⟨b0, b1, b2, b3, b4, bf⟩ := HX.out.b; obtain ⟨r0, r1, r2, r3, rf⟩ := HX.out.d) | (go_at_call 10; with_reducible refine Calls.mono (fine_any B ao n m D rx ry _ hn) ?_; rintro e wc ⟨rfl, hb⟩; rw [HR.out]; replace HX := hid (HX.out.below hb); clear hb; clear b0 b1 b2 b3 b4 bf r0 r1 r2 r3 rf; obtain ⟨b0, b1, b2, b3, b4, bf⟩ := HX.out.b; obtain ⟨r0, r1, r2, r3, rf⟩ := HX.out.d))
    go_ret
    exact ⟨rfl, HX.out.low⟩
  obtain ⟨a, b, hG⟩ := good8 hF
  have hU := bu_of h hp hG
  have hrx := hG.hrx
  have hry := hG.hry
  have HR := hid hF
  clear hF hp
  subst hrx
  subst hry
  obtain ⟨f, hf⟩ : ∃ f, f = unimg B l := ⟨_, rfl⟩
  have e1 := hU.im
  rw [← hf] at e1
  have HU : Hid (n ≤ 5000 ∧ bufB B n = true ∧ (∀ x y, byteX (f x y)) ∧ Ok B ∧ Half D ∧ area (grow D (a : Int) (b : Int) (a : Int) (b : Int)) ≤ 5000 ∧ a ≤ 255 ∧ b ≤ 255 ∧ area D ≤ 5000) := ⟨hU.n5, hU.buf, by rw [hf]; exact hU.byt, hU.ok, hU.half, hU.few, hU.a, hU.b, Int.le_trans (grow_area hU.half hU.a hU.b) hU.few⟩
  subst e1
  have HV := hid h
  have HLN := hid (vx_len h)
  obtain ⟨Z, hZ⟩ : ∃ Z, Z = orN D := ⟨_, rfl⟩
  have HZ := hid hZ.symm
  have HDO : Hid (Ok D) := hU.half.ok
  clear hU hG h hf hZ
  go_enter Try.func5, Try.ntmps5
  go_wp2_with (first | (go_at_call 9; with_reducible refine Calls.mono (awake_any _) ?_; rintro e wc ⟨rfl, hb⟩; replace HX := hid (HX.out.below hb); clear hb; clear b0 b1 b2 b3 b4 bf r0 r1 r2 r3 rf; obtain ⟨b0, b1, b2, b3, b4, bf⟩ := HX.out.b; obtain ⟨r0, r1, r2, r3, rf⟩ := HX.out.d) | (go_at_call 10; with_reducible refine Calls.mono (fine_any B ao n m D (a : Int) (b : Int) _ hn) ?_; rintro e wc ⟨rfl, hb⟩; rw [HR.out]; replace HX := hid (HX.out.below hb); clear hb; clear b0 b1 b2 b3 b4 bf r0 r1 r2 r3 rf; obtain ⟨b0, b1, b2, b3, b4, bf⟩ := HX.out.b; obtain ⟨r0, r1, r2, r3, rf⟩ := HX.out.d))
  clear b0 b1 b2 b3 b4 bf r0 r1 r2 r3 rf
  go_loopg [9] n (fun gh v9 wr => ∃ i : Nat, i ≤ n ∧ gh = n - i ∧ v9 = .int .i64 (i : Int) ∧ Fit (img B f) i ∧ Kx W B D ao n m wr)
  case atStart => exact ⟨0, Nat.zero_le _, rfl, rfl, fun i p h => absurd h (Nat.not_lt_zero _), HX.out⟩
  case round =>
    clear HX
    obtain ⟨i, hi, rfl, rfl, hFit, hX⟩ := hrel
    have HX := hid hX
    have HF := hid hFit
    obtain ⟨b0, b1, b2, b3, b4, bf⟩ := hX.b
    obtain ⟨r0, r1, r2, r3, rf⟩ := hX.d
    clear hX hFit
    by_cases hil : i < n
    · have hiz : (i : Int) < (n : Int) := by omega
      obtain ⟨p, hp⟩ : ∃ p, (img B f)[i]? = some p := ⟨_, List.getElem?_eq_getElem (by rw [HLN.out]; exact hil)⟩
      have HP := hid hp
      obtain ⟨rfl, t0, t1, t2, t3⟩ := vx_at (HV.out.below HX.out.low) hp
      clear hp
      rcases hR : rgtB p with _ | _
      · have HRG := hid hR
        clear hR
        go_wp2_with (go_at_call 15; with_reducible refine Calls.mono (pxRight_any p _) ?_; rintro e w2 ⟨rfl, hb2⟩; rw [HRG.out]; have HX2 := hid (HX.out.below hb2); clear hb2)
        go_ret
        exact ⟨rfl, HX2.out.low⟩
      · have HRG := hid hR
        clear hR
        go_wp2_with (go_at_call 15; with_reducible refine Calls.mono (pxRight_any p _) ?_; rintro e w2 ⟨rfl, hb2⟩; rw [HRG.out]; have HX2 := hid (HX.out.below hb2); clear hb2)
        go_roundg (n - (i + 1))
        case measure => omega
        case rel =>
          refine ⟨i + 1, by omega, rfl, by simp, ?_, HX2.out⟩
          intro j q hj hq
          by_cases hji : j < i
          · exact HF.out j q hji hq
          · obtain rfl : j = i := by omega
            have := HP.out
            rw [hq] at this
            injection this with this
            rw [this]
            exact rgt_of HRG.out
    · obtain rfl : n = i := by omega
      have HRA : Hid (∀ x y, rightX (blurG (atX B f) a b x y)) := blur_right (fit_all HLN.out HF.out) a b
      clear HF
      go_wp2_with (go_at_call 12; with_reducible refine Calls.mono (box_any B ao n m g off f D a b _ HU.out.2.1 HU.out.1 (HV.out.below HX.out.low) HU.out.2.2.1 HU.out.2.2.2.2.1 HU.out.2.2.2.2.2.1 HU.out.2.2.2.2.2.2.1 HU.out.2.2.2.2.2.2.2.1) ?_; rintro e w2 ⟨hr, hb2⟩; rw [HZ.out] at hr; obtain ⟨co, cn, cm, cg, coff, rfl, hO, hg1, hg2, hln⟩ := retG hr; have HLC := hid hln; have HO := hid hO.v; have HX2 := hid (HX.out.below hb2); clear hr hO hg1 hg2 hln hb2)
      have HS0 : Hid (Vx (w2.alloc (.cells #[.int .i64 Z.x0, .int .i64 Z.y0, .int .i64 Z.x1, .int .i64 Z.y1, .slice co cn cm] 26)) co cn cm cg coff (img Z (blurG (atX B f) a b)) ∧ Has5 (w2.alloc (.cells #[.int .i64 Z.x0, .int .i64 Z.y0, .int .i64 Z.x1, .int .i64 Z.y1, .slice co cn cm] 26)) w2.heap.size Z co cn cm ∧ Kx W B D ao n m (w2.alloc (.cells #[.int .i64 Z.x0, .int .i64 Z.y0, .int .i64 Z.x1, .int .i64 Z.y1, .slice co cn cm] 26))) := ⟨HO.out.below ((Below.refl _ _).alloc (Nat.le_refl _) _), Has5.new rfl _ _ _ _ _ _ _ _, HX2.out.below ((Below.refl _ _).alloc (Nat.le_refl _) _)⟩
      have hcn : cn ≤ 9223372036854775807 := vx_small HO.out
      clear HX HX2 HO b0 b1 b2 b3 b4 bf r0 r1 r2 r3 rf
      generalize w2.alloc (.cells #[.int .i64 Z.x0, .int .i64 Z.y0, .int .i64 Z.x1, .int .i64 Z.y1, .slice co cn cm] 26) = W2 at HS0 ⊢
      generalize w2.heap.size = k8 at HS0 ⊢
      go_loopg [11] cn (fun gh v11 wr => ∃ i : Nat, i ≤ cn ∧ gh = cn - i ∧ v11 = .int .i64 (i : Int) ∧ Vx wr co cn cm cg coff (img Z (blurG (atX B f) a b)) ∧ Has5 wr k8 Z co cn cm ∧ Kx W B D ao n m wr)
      case atStart => exact ⟨0, Nat.zero_le _, rfl, rfl, HS0.out.1, HS0.out.2.1, HS0.out.2.2⟩
      case round =>
        clear HS0
        obtain ⟨i, hi, rfl, rfl, hO, h5, hX⟩ := hrel
        have HS := hid (And.intro hO (And.intro h5 hX))
        obtain ⟨c0, c1, c2, c3, c4, cf⟩ := h5
        by_cases hil : i < cn
        · have hiz : (i : Int) < (cn : Int) := by omega
          obtain ⟨p, hp⟩ : ∃ p, (img Z (blurG (atX B f) a b))[i]? = some p := ⟨_, List.getElem?_eq_getElem (by rw [HLC.out]; exact hil)⟩
          have HRG : Hid (rgtB p = true) := by
            have hl : i < wid Z * hei Z := by have := HLC.out; rw [img_len] at this; omega
            rw [img_get Z _ hl] at hp
            injection hp with hp
            show rgtB p = true
            rw [← hp]
            exact of_rgt (HRA.out _ _)
          obtain ⟨rfl, t0, t1, t2, t3⟩ := vx_at hO hp
          clear hp hO hX
          go_wp2_with (go_at_call 15; with_reducible refine Calls.mono (pxRight_any p _) ?_; rintro e w3 ⟨rfl, hb3⟩; rw [HRG.out]; have HS3 := hid (And.intro (HS.out.1.below hb3) (And.intro (HS.out.2.1.below hb3) (HS.out.2.2.below hb3))); clear hb3)
          go_roundg (cn - (i + 1))
          case measure => omega
          case rel => exact ⟨i + 1, by omega, rfl, by simp, HS3.out.1, HS3.out.2.1, HS3.out.2.2⟩
        · obtain rfl : cn = i := by omega
          have HX := hid hX
          obtain ⟨b0, b1, b2, b3, b4, bf⟩ := hX.b
          obtain ⟨r0, r1, r2, r3, rf⟩ := hX.d
          have hS : S9c W.heap.size (W.heap.size + 1) B D (.slice ao n m) wr := ⟨b0, b1, b2, b3, b4, r0, r1, r2, r3⟩
          clear b0 b1 b2 b3 b4 bf r0 r1 r2 r3 rf
          clear hO hX
          go_wp2
          go_region_held3 (fun w' => w'.cell? ⟨W.heap.size, 0, none⟩ = some (.int .i64 B.x0) ∧ w'.cell? ⟨W.heap.size, 1, none⟩ = some (.int .i64 B.y0) ∧ w'.cell? ⟨W.heap.size, 2, none⟩ = some (.int .i64 B.x1) ∧ w'.cell? ⟨W.heap.size, 3, none⟩ = some (.int .i64 B.y1) ∧ w'.cell? ⟨W.heap.size, 4, none⟩ = some (.slice ao n m) ∧ w'.cell? ⟨(W.heap.size + 1), 0, none⟩ = some (.int .i64 D.x0) ∧ w'.cell? ⟨(W.heap.size + 1), 1, none⟩ = some (.int .i64 D.y0) ∧ w'.cell? ⟨(W.heap.size + 1), 2, none⟩ = some (.int .i64 D.x1) ∧ w'.cell? ⟨(W.heap.size + 1), 3, none⟩ = some (.int .i64 D.y1)) (repeat (first | with_reducible assumption | with_reducible refine s9c_drew ?_ | with_reducible refine s9c_below ?_ ‹_›))
            ((first
            | (go_at_call 12; with_reducible refine Calls.mono (box_00 B ao n m g off f D _ HU.out.2.1 HU.out.1 (HV.out.below HX.out.low.drew) HU.out.2.2.1 HU.out.2.2.2.2.1 HU.out.2.2.2.2.2.2.2.2) ?_; rintro e w4 ⟨hr, hb4⟩; obtain ⟨eo, en, em, eg, eoff, rfl, hO4, hg1, hg2, hln⟩ := retG hr; have HL4 := hid hln; have HO4 := hid hO4.v; have HB4 := hid (Rc.via HX.out.low.drew hb4); clear hr hO4 hg1 hg2 hln)
            | (go_at_call 16; with_reducible refine Calls.mono (refWindow_any B ao n m g off f D _ HU.out.1 HU.out.2.2.2.1 (HV.out.below HB4.out) HDO.out HU.out.2.2.2.2.2.2.2.2) ?_; rintro e w5 ⟨hr, hb5⟩; rw [win_img] at hr; obtain ⟨fo, fn, fm, fg, foff, rfl, hO5, hg1, hg2, hln⟩ := retG hr; have hne := HL4.out.symm.trans hln; subst hne; have HO5 := hid hO5.v; have HO6 := hid (HO4.out.below hb5); have HB5 := hid (Rc.via HB4.out hb5); clear hr hO5 hg1 hg2 hln)
            | (go_at_call 11; with_reducible refine Calls.mono (same_yes (orN D) eo en em eg eoff fo fm fg foff _ _ HO6.out HO5.out) ?_; rintro e w6 ⟨rfl, hb6⟩; have HB6 := hid (Rc.via HB5.out hb6))))
          go_wp2
          go_ret
          exact ⟨rfl, HB6.out⟩

theorem own : ownKnob Try.prog.godebug = none := by kernel_rfl

set_option maxRecDepth 100000 in
theorem lifted (os : Os) (started : os.Started) (H : Type) (enc : TypeId × Value → H) :
    ReturnsInHanded {} Try.checked os 5 .any (Rows.blurRightSpec.pre6 enc Try.prog Try.f5 Rows.blurRightRow.domain false) (Rows.blurRightSpec.post enc Try.prog Try.f5 false true false false) := by
  refine returnsInHanded_of_change (C := Try.checked) own started (by kernel_rfl) Try.func5
    (ChangeSpec.witness6 (enc := enc) (C := Try.checked) false ⟨#[], #[.agg #[.int .i64 0, .int .i64 0, .int .i64 0, .int .i64 0, .slice none 0 0], .agg #[.int .i64 0, .int .i64 0, .int .i64 0, .int .i64 0], .int .i64 0, .int .i64 0], []⟩ 8 (by kernel_rfl) (by kernel_rfl) (by kernel_rfl) (by kernel_rfl)) ?_
  intro W base args ds gs before hval0 hW hcnd _
  have hval : ∀ (j : Nat) t v, Try.f5.params[j]? = some t → args[j]? = some v → Value.okWide Try.prog W .any base t v := hval0
  have hW' := hW
  obtain ⟨p, q, hA0, hV, rfl, hfz, hnd⟩ := hW
  have hA : DataW.TrodAll enc Try.prog W 0 (fun _ => true) true Try.f5.params.toList args.toList ds p := hA0
  rw [Try.params5] at hA hval
  obtain ⟨v0, vs0, d0, ds0, p0, q0, hargs, rfl, rfl, h0, r0⟩ := trodAll_cons hA
  obtain ⟨v1, vs1, d1, ds1, p1, q1, rfl, rfl, rfl, h1, r1⟩ := trodAll_cons r0
  obtain ⟨v2, vs2, d2, ds2, p2, q2, rfl, rfl, rfl, h2, r2⟩ := trodAll_cons r1
  obtain ⟨v3, vs3, d3, ds3, p3, q3, rfl, rfl, rfl, h3, r3⟩ := trodAll_cons r2
  obtain ⟨rfl, rfl, rfl⟩ := trodAll_nil r3
  obtain rfl : args = #[v0, v1, v2, v3] := by cases args; simp_all
  obtain ⟨rfl, rfl⟩ := trodVars_none hV
  obtain ⟨B, ao, n, c, g, off, l, rfl, hv0, hp0⟩ := open_buf (hval 0 26 v0 rfl rfl) h0
  obtain ⟨D, rfl⟩ := open_rect (hval 1 23 v1 rfl rfl) h1
  obtain ⟨rx, rfl, -, -, -⟩ := open_int Try.underlying3 (hval 2 3 v2 rfl rfl) h2
  obtain ⟨ry, rfl, -, -, -⟩ := open_int Try.underlying3 (hval 3 3 v3 rfl rfl) h3
  clear hA0 hval0
  simp only [List.append_nil] at hW'
  have hlt : ∀ x ∈ p0 ++ (p1 ++ (p2 ++ (p3))), x.block < W.heap.size := fun x hx => by simpa using hW'.lt x (by simpa using hx)
  refine (walk B ao n c g off l D rx ry W hv0 hp0).mono fun e W' ⟨he, hg⟩ => ?_
  subst he
  have t0 := Below.trod laidOut (by kernel_rfl) (of_decide_eq_true (by kernel_rfl)) h0 hg (fun x hx => hlt x (List.mem_append_left _ hx))
  have t1 := Below.trod laidOut (by kernel_rfl) (of_decide_eq_true (by kernel_rfl)) h1 hg (fun x hx => hlt x (List.mem_append_right _ (List.mem_append_left _ hx)))
  have t2 := Below.trod laidOut (by kernel_rfl) (of_decide_eq_true (by kernel_rfl)) h2 hg (fun x hx => hlt x (List.mem_append_right _ (List.mem_append_right _ (List.mem_append_left _ hx))))
  have t3 := Below.trod laidOut (by kernel_rfl) (of_decide_eq_true (by kernel_rfl)) h3 hg (fun x hx => hlt x (List.mem_append_right _ (List.mem_append_right _ (List.mem_append_right _ (hx)))))
  exact ⟨_, rfl, ⟨_, _, _, _, _, _, hW', (trodAll_cons_mk (shut_bool Try.underlying4 _) trodAll_mk0), (trodAll_cons_mk t0 (trodAll_cons_mk t1 (trodAll_cons_mk t2 (trodAll_cons_mk t3 trodAll_mk0)))), rfl, hg.frame _, fun h => by cases h⟩⟩

theorem over : Rows.blurRightRow.holds Try.pinned (OpenSpec.ofChange Rows.blurRightSpec) :=
  OpenClaim.holds_of_wide 5 Try.f5 rfl rfl rfl rfl rfl rfl rfl ⟨rfl, rfl, rfl, rfl, rfl⟩ rfl rfl rfl rfl rfl (by kernel_rfl) Try.func5 (by kernel_rfl)
    (of_decide_eq_true (by kernel_rfl)) (by unfold Func.isWrapper; first | (rw [if_pos (by decide +kernel)]; kernel_rfl) | (rw [if_neg (by decide +kernel)]; exact ⟨rfl, rfl⟩))
    (fun os started H enc _ => lifted os started H enc)

theorem proved : Rows.BlurRightSaid := over
#print axioms proved
end Go.Proofs.Ytbcgnnjkhgpkmaa.blurRight
