/- What is made of right buffers is what the document says; no condition. -/
import Derived.Test.YtfkbdpbgeglgaaaRows
import Derived.WalkKit
import Derived.ProofKit
import Derived.OpenShut
import Derived.Test.YtfkbdpbgeglgaaaOpen
import Derived.Test.YtfkbdpbgeglgaaaKit
import Derived.Test.YtfkbdpbgeglgaaaRBox
import Derived.Deep.RegionHeld3
namespace Go.Proofs.Ytfkbdpbgeglgaaa.morphBoxes
open Go.ChangeShapes Go.WideShapes Go.ChangeAt Go.RowKit Num
set_option linter.unusedVariables false
set_option linter.unusedSimpArgs false

theorem refLeast (B : R) (ao : Option Addr) (n m g off : Nat) (f : Int → Int → X) (D : R) (rx ry : Nat) (w : World) (hBo : Ok B) (hn : n ≤ 5000) (hV : Vx w ao n m g off (img B f)) (hD : Half D) (ha : area D ≤ 5000) (hrx : rx ≤ 255) (hry : ry ≤ 255) :
    Calls Try.prog 13 #[.agg #[.int .i64 B.x0, .int .i64 B.y0, .int .i64 B.x1, .int .i64 B.y1, .slice ao n m], .agg #[.int .i64 D.x0, .int .i64 D.y0, .int .i64 D.x1, .int .i64 D.y1], .int .i64 (rx : Int), .int .i64 (ry : Int), .bool false] w fun e w' => RetB w.heap.size w' e (orN D) (img (orN D) (morX true (atX B f) rx ry)) ∧ Below w.heap.size w w' := refBox_any B ao n m g off f D rx ry true w hBo hn hV hD ha hrx hry
theorem refMost (B : R) (ao : Option Addr) (n m g off : Nat) (f : Int → Int → X) (D : R) (rx ry : Nat) (w : World) (hBo : Ok B) (hn : n ≤ 5000) (hV : Vx w ao n m g off (img B f)) (hD : Half D) (ha : area D ≤ 5000) (hrx : rx ≤ 255) (hry : ry ≤ 255) :
    Calls Try.prog 13 #[.agg #[.int .i64 B.x0, .int .i64 B.y0, .int .i64 B.x1, .int .i64 B.y1, .slice ao n m], .agg #[.int .i64 D.x0, .int .i64 D.y0, .int .i64 D.x1, .int .i64 D.y1], .int .i64 (rx : Int), .int .i64 (ry : Int), .bool true] w fun e w' => RetB w.heap.size w' e (orN D) (img (orN D) (morX false (atX B f) rx ry)) ∧ Below w.heap.size w w' := refBox_any B ao n m g off f D rx ry false w hBo hn hV hD ha hrx hry

set_option maxRecDepth 100000 in
set_option maxHeartbeats 4000000 in
theorem walk (B : R) (ao : Option Addr) (n m g off : Nat) (l : List X) (D : R) (rx ry : Int) (W : World) (h : Vx W ao n m g off l) (hp : ∀ p, p ∈ l → byteX p) :
    Calls Try.prog 3 #[.agg #[.int .i64 B.x0, .int .i64 B.y0, .int .i64 B.x1, .int .i64 B.y1, .slice ao n m], .agg #[.int .i64 D.x0, .int .i64 D.y0, .int .i64 D.x1, .int .i64 D.y1], .int .i64 rx, .int .i64 ry] W fun e w' => e = .returned (.bool true) ∧ Below W.heap.size W w' := by
  have hn := vx_small h
  have HX : Hid (Kx W B D ao n m ((W.alloc (.cells #[.int .i64 B.x0, .int .i64 B.y0, .int .i64 B.x1, .int .i64 B.y1, .slice ao n m] 26)).alloc (.cells #[.int .i64 D.x0, .int .i64 D.y0, .int .i64 D.x1, .int .i64 D.y1] 23))) := kx_new W B D ao n m
  obtain ⟨b0, b1, b2, b3, b4, bf⟩ := HX.out.b
  obtain ⟨r0, r1, r2, r3, rf⟩ := HX.out.d
  rcases hF : fineQ B n D rx ry with _ | _
  · have HR := hid hF
    clear hF h hp
    go_enter Try.func3, Try.ntmps3
    go_wp2_with (first | (go_at_call 9; with_reducible refine Calls.mono (awake_any _) ?_; rintro e wc ⟨rfl, hb⟩; replace HX := hid (HX.out.below hb); clear hb; clear b0 b1 b2 b3 b4 bf r0 r1 r2 r3 rf; obtain ⟨b0, b1, b2, b3, b4, bf⟩ := HX.out.b; obtain ⟨r0, r1, r2, r3, rf⟩ := HX.out.d) | (go_at_call 10; with_reducible refine Calls.mono (fine_any B ao n m D rx ry _ hn) ?_; rintro e wc ⟨rfl, hb⟩; rw [HR.out]; replace HX := hid (HX.out.below hb); clear hb; clear b0 b1 b2 b3 b4 bf r0 r1 r2 r3 rf; obtain ⟨b0, b1, b2, b3, b4, bf⟩ := HX.out.b; obtain ⟨r0, r1, r2, r3, rf⟩ := HX.out.d))
    go_ret
    exact ⟨rfl, HX.out.low⟩
  obtain ⟨a, b, hG⟩ := good8 hF
  have hU := bu_of h hp hG
  have hrx := hG.hrx
  have hry := hG.hry
  have HR := hid hF
  clear hF hp
  subst hrx
  subst hry
  obtain ⟨f, hf⟩ : ∃ f, f = unimg B l := ⟨_, rfl⟩
  have e1 := hU.im
  rw [← hf] at e1
  have HU : Hid (n ≤ 5000 ∧ bufB B n = true ∧ (∀ x y, byteX (f x y)) ∧ Ok B ∧ Half D ∧ area (grow D (a : Int) (b : Int) (a : Int) (b : Int)) ≤ 5000 ∧ a ≤ 255 ∧ b ≤ 255 ∧ area D ≤ 5000) := ⟨hU.n5, hU.buf, by rw [hf]; exact hU.byt, hU.ok, hU.half, hU.few, hU.a, hU.b, Int.le_trans (grow_area hU.half hU.a hU.b) hU.few⟩
  subst e1
  have HV := hid h
  clear hU hG h hf
  go_enter Try.func3, Try.ntmps3
  go_wp2_with (first | (go_at_call 9; with_reducible refine Calls.mono (awake_any _) ?_; rintro e wc ⟨rfl, hb⟩; replace HX := hid (HX.out.below hb); clear hb; clear b0 b1 b2 b3 b4 bf r0 r1 r2 r3 rf; obtain ⟨b0, b1, b2, b3, b4, bf⟩ := HX.out.b; obtain ⟨r0, r1, r2, r3, rf⟩ := HX.out.d) | (go_at_call 10; with_reducible refine Calls.mono (fine_any B ao n m D (a : Int) (b : Int) _ hn) ?_; rintro e wc ⟨rfl, hb⟩; rw [HR.out]; replace HX := hid (HX.out.below hb); clear hb; clear b0 b1 b2 b3 b4 bf r0 r1 r2 r3 rf; obtain ⟨b0, b1, b2, b3, b4, bf⟩ := HX.out.b; obtain ⟨r0, r1, r2, r3, rf⟩ := HX.out.d))
  have hS : S9c W.heap.size (W.heap.size + 1) B D (.slice ao n m) wc := ⟨b0, b1, b2, b3, b4, r0, r1, r2, r3⟩
  clear b0 b1 b2 b3 b4 bf r0 r1 r2 r3 rf
  go_region_held3 (fun w' => w'.cell? ⟨W.heap.size, 0, none⟩ = some (.int .i64 B.x0) ∧ w'.cell? ⟨W.heap.size, 1, none⟩ = some (.int .i64 B.y0) ∧ w'.cell? ⟨W.heap.size, 2, none⟩ = some (.int .i64 B.x1) ∧ w'.cell? ⟨W.heap.size, 3, none⟩ = some (.int .i64 B.y1) ∧ w'.cell? ⟨W.heap.size, 4, none⟩ = some (.slice ao n m) ∧ w'.cell? ⟨(W.heap.size + 1), 0, none⟩ = some (.int .i64 D.x0) ∧ w'.cell? ⟨(W.heap.size + 1), 1, none⟩ = some (.int .i64 D.y0) ∧ w'.cell? ⟨(W.heap.size + 1), 2, none⟩ = some (.int .i64 D.x1) ∧ w'.cell? ⟨(W.heap.size + 1), 3, none⟩ = some (.int .i64 D.y1)) (repeat (first | with_reducible assumption | with_reducible refine s9c_drew ?_ | with_reducible refine s9c_below ?_ ‹_›))
    ((first
    | (go_at_call 12; with_reducible refine Calls.mono (least_any B ao n m g off f D a b _ HU.out.2.1 HU.out.1 (HV.out.below HX.out.low.drew) HU.out.2.2.1 HU.out.2.2.2.2.1 HU.out.2.2.2.2.2.1 HU.out.2.2.2.2.2.2.1 HU.out.2.2.2.2.2.2.2.1) ?_; rintro e w1 ⟨hr, hb1⟩; obtain ⟨co, cn, cm, cg, coff, rfl, hO, hg1, hg2, hln⟩ := retG hr; have HL1 := hid hln; have HO1 := hid hO.v; have HB1 := hid (Rc.via HX.out.low.drew hb1); clear hr hO hg1 hg2 hln)
    | (go_at_call 13; with_reducible refine Calls.mono (refLeast B ao n m g off f D a b _ HU.out.2.2.2.1 HU.out.1 (HV.out.below HB1.out) HU.out.2.2.2.2.1 HU.out.2.2.2.2.2.2.2.2 HU.out.2.2.2.2.2.2.1 HU.out.2.2.2.2.2.2.2.1) ?_; rintro e w2 ⟨hr, hb2⟩; obtain ⟨eo, en, em, eg, eoff, rfl, hO, hg1, hg2, hln⟩ := retG hr; have hne := HL1.out.symm.trans hln; subst hne; have HO2 := hid hO.v; have HO3 := hid (HO1.out.below hb2); have HB2 := hid (Rc.via HB1.out hb2); clear hr hO hg1 hg2 hln)
    | (go_at_call 11; with_reducible refine Calls.mono (same_yes (orN D) co cn cm cg coff eo em eg eoff _ _ HO3.out HO2.out) ?_; rintro e w3 ⟨rfl, hb3⟩; have HB3 := hid (Rc.via HB2.out hb3))
    | (go_at_call 14; with_reducible refine Calls.mono (most_any B ao n m g off f D a b _ HU.out.2.1 HU.out.1 (HV.out.below HB3.out) HU.out.2.2.1 HU.out.2.2.2.2.1 HU.out.2.2.2.2.2.1 HU.out.2.2.2.2.2.2.1 HU.out.2.2.2.2.2.2.2.1) ?_; rintro e w4 ⟨hr, hb4⟩; obtain ⟨c2o, c2n, c2m, c2g, c2off, rfl, hO, hg1, hg2, hln⟩ := retG hr; have HL4 := hid hln; have HO4 := hid hO.v; have HB4 := hid (Rc.via HB3.out hb4); clear hr hO hg1 hg2 hln)
    | (go_at_call 13; with_reducible refine Calls.mono (refMost B ao n m g off f D a b _ HU.out.2.2.2.1 HU.out.1 (HV.out.below HB4.out) HU.out.2.2.2.2.1 HU.out.2.2.2.2.2.2.2.2 HU.out.2.2.2.2.2.2.1 HU.out.2.2.2.2.2.2.2.1) ?_; rintro e w5 ⟨hr, hb5⟩; obtain ⟨e2o, e2n, e2m, e2g, e2off, rfl, hO, hg1, hg2, hln⟩ := retG hr; have hne2 := HL4.out.symm.trans hln; subst hne2; have HO5 := hid hO.v; have HO6 := hid (HO4.out.below hb5); have HB5 := hid (Rc.via HB4.out hb5); clear hr hO hg1 hg2 hln)
    | (go_at_call 11; with_reducible refine Calls.mono (same_yes (orN D) c2o c2n c2m c2g c2off e2o e2m e2g e2off _ _ HO6.out HO5.out) ?_; rintro e w6 ⟨rfl, hb6⟩; have HB6 := hid (Rc.via HB5.out hb6))))
  go_wp2
  go_ret
  exact ⟨rfl, HB6.out⟩

theorem own : ownKnob Try.prog.godebug = none := by kernel_rfl

set_option maxRecDepth 100000 in
theorem lifted (os : Os) (started : os.Started) (H : Type) (enc : TypeId × Value → H) :
    ReturnsInHanded {} Try.checked os 3 .any (Rows.morphBoxesSpec.pre6 enc Try.prog Try.f3 Rows.morphBoxesRow.domain false) (Rows.morphBoxesSpec.post enc Try.prog Try.f3 false true false false) := by
  refine returnsInHanded_of_change (C := Try.checked) own started (by kernel_rfl) Try.func3
    (ChangeSpec.witness6 (enc := enc) (C := Try.checked) false ⟨#[], #[.agg #[.int .i64 0, .int .i64 0, .int .i64 0, .int .i64 0, .slice none 0 0], .agg #[.int .i64 0, .int .i64 0, .int .i64 0, .int .i64 0], .int .i64 0, .int .i64 0], []⟩ 8 (by kernel_rfl) (by kernel_rfl) (by kernel_rfl) (by kernel_rfl)) ?_
  intro W base args ds gs before hval0 hW hcnd _
  have hval : ∀ (j : Nat) t v, Try.f3.params[j]? = some t → args[j]? = some v → Value.okWide Try.prog W .any base t v := hval0
  have hW' := hW
  obtain ⟨p, q, hA0, hV, rfl, hfz, hnd⟩ := hW
  have hA : DataW.TrodAll enc Try.prog W 0 (fun _ => true) true Try.f3.params.toList args.toList ds p := hA0
  rw [Try.params3] at hA hval
  obtain ⟨v0, vs0, d0, ds0, p0, q0, hargs, rfl, rfl, h0, r0⟩ := trodAll_cons hA
  obtain ⟨v1, vs1, d1, ds1, p1, q1, rfl, rfl, rfl, h1, r1⟩ := trodAll_cons r0
  obtain ⟨v2, vs2, d2, ds2, p2, q2, rfl, rfl, rfl, h2, r2⟩ := trodAll_cons r1
  obtain ⟨v3, vs3, d3, ds3, p3, q3, rfl, rfl, rfl, h3, r3⟩ := trodAll_cons r2
  obtain ⟨rfl, rfl, rfl⟩ := trodAll_nil r3
  obtain rfl : args = #[v0, v1, v2, v3] := by cases args; simp_all
  obtain ⟨rfl, rfl⟩ := trodVars_none hV
  obtain ⟨B, ao, n, c, g, off, l, rfl, hv0, hp0⟩ := open_buf (hval 0 26 v0 rfl rfl) h0
  obtain ⟨D, rfl⟩ := open_rect (hval 1 23 v1 rfl rfl) h1
  obtain ⟨rx, rfl, -, -, -⟩ := open_int Try.underlying3 (hval 2 3 v2 rfl rfl) h2
  obtain ⟨ry, rfl, -, -, -⟩ := open_int Try.underlying3 (hval 3 3 v3 rfl rfl) h3
  clear hA0 hval0
  simp only [List.append_nil] at hW'
  have hlt : ∀ x ∈ p0 ++ (p1 ++ (p2 ++ (p3))), x.block < W.heap.size := fun x hx => by simpa using hW'.lt x (by simpa using hx)
  refine (walk B ao n c g off l D rx ry W hv0 hp0).mono fun e W' ⟨he, hg⟩ => ?_
  subst he
  have t0 := Below.trod laidOut (by kernel_rfl) (of_decide_eq_true (by kernel_rfl)) h0 hg (fun x hx => hlt x (List.mem_append_left _ hx))
  have t1 := Below.trod laidOut (by kernel_rfl) (of_decide_eq_true (by kernel_rfl)) h1 hg (fun x hx => hlt x (List.mem_append_right _ (List.mem_append_left _ hx)))
  have t2 := Below.trod laidOut (by kernel_rfl) (of_decide_eq_true (by kernel_rfl)) h2 hg (fun x hx => hlt x (List.mem_append_right _ (List.mem_append_right _ (List.mem_append_left _ hx))))
  have t3 := Below.trod laidOut (by kernel_rfl) (of_decide_eq_true (by kernel_rfl)) h3 hg (fun x hx => hlt x (List.mem_append_right _ (List.mem_append_right _ (List.mem_append_right _ (hx)))))
  exact ⟨_, rfl, ⟨_, _, _, _, _, _, hW', (trodAll_cons_mk (shut_bool Try.underlying4 _) trodAll_mk0), (trodAll_cons_mk t0 (trodAll_cons_mk t1 (trodAll_cons_mk t2 (trodAll_cons_mk t3 trodAll_mk0)))), rfl, hg.frame _, fun h => by cases h⟩⟩

theorem over : Rows.morphBoxesRow.holds Try.pinned (OpenSpec.ofChange Rows.morphBoxesSpec) :=
  OpenClaim.holds_of_wide 3 Try.f3 rfl rfl rfl rfl rfl rfl rfl ⟨rfl, rfl, rfl, rfl, rfl⟩ rfl rfl rfl rfl rfl (by kernel_rfl) Try.func3 (by kernel_rfl)
    (of_decide_eq_true (by kernel_rfl)) (by unfold Func.isWrapper; first | (rw [if_pos (by decide +kernel)]; kernel_rfl) | (rw [if_neg (by decide +kernel)]; exact ⟨rfl, rfl⟩))
    (fun os started H enc _ => lifted os started H enc)

theorem proved : Rows.MorphBoxesSaid := over
#print axioms proved
end Go.Proofs.Ytfkbdpbgeglgaaa.morphBoxes
