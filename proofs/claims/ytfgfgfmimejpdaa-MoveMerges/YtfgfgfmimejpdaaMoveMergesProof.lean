/- What is merged of right buffers is what the document says; no condition. -/
import Derived.Test.YtfgfgfmimejpdaaRows
import Derived.WalkKit
import Derived.ProofKit
import Derived.OpenShut
import Derived.Test.YtfgfgfmimejpdaaOpen
import Derived.Test.YtfgfgfmimejpdaaLawS
import Derived.Test.YtfgfgfmimejpdaaMgMerges
import Derived.Deep.DeepCutAuto
import Derived.Deep.LoopGhost
import Derived.Deep.Light
namespace Go.Proofs.Ytfgfgfmimejpdaa.moveMerges
open Go.ChangeShapes Go.WideShapes Go.ChangeAt Go.RowKit Num
set_option linter.unusedVariables false
set_option linter.unusedSimpArgs false
/-- what is handed in stands -/
structure Km (W : World) (D : R) (w : World) : Prop where
  d : Rc.Has4 w W.heap.size (.int .i64 D.x0) (.int .i64 D.y0) (.int .i64 D.x1) (.int .i64 D.y1)
  low : Below W.heap.size W w
  sz : W.heap.size + 1 ≤ w.heap.size
theorem Km.below {W : World} {D : R} {w w' : World} (x : Km W D w) (hb : Below w.heap.size w w') : Km W D w' := ⟨x.d.below hb, x.low.trans (hb.mono x.low.size), Nat.le_trans x.sz hb.size⟩
theorem Km.but {W : World} {D : R} {w w' : World} (x : Km W D w) {j : Nat} (hb : But j w w') (hj : W.heap.size + 1 ≤ j) : Km W D w' := ⟨has4_but x.d hb (by omega), x.low.trans (hb.low (by omega) x.low.size), Nat.le_trans x.sz hb.size⟩
theorem km_new (W : World) (D : R) : Km W D ((W.alloc (.cells #[.int .i64 D.x0, .int .i64 D.y0, .int .i64 D.x1, .int .i64 D.y1] 23))) := ⟨Rc.Has4.new rfl _ _ _ _ _, ((Below.refl _ _).alloc (Nat.le_refl _) _), by simp⟩
theorem gb_of {w : World} {v : Bv} (h : Vx w v.ao v.n v.m v.g v.off v.l) (hp : ∀ p, p ∈ v.l → byteX p) (hr : rightT v.B v.n v.l = true) : Gb v := by
  have G := gd_of h hp hr
  exact ⟨by have := G.n3; omega, G.buf, G.im, G.byt, G.ok⟩
set_option maxRecDepth 100000 in
set_option maxHeartbeats 8000000 in
theorem walk (ao : Option Addr) (n c b off : Nat) (L : List Bv) (D : R) (W : World) (h : Vb W ao n c b off L) (hp : ∀ v, v ∈ L → ∀ q, q ∈ v.l → byteX q) :
    Calls Try.prog 5 #[.slice ao n c, .agg #[.int .i64 D.x0, .int .i64 D.y0, .int .i64 D.x1, .int .i64 D.y1]] W fun e w' => e = .returned (.bool true) ∧ Below W.heap.size W w' := by
  have hL := vb_len h
  have HV := hid h
  have HPP := hid hp
  clear h hp
  have HX : Hid (Km W D ((W.alloc (.cells #[.int .i64 D.x0, .int .i64 D.y0, .int .i64 D.x1, .int .i64 D.y1] 23)))) := km_new W D
  obtain ⟨d0, d1, d2, d3, df⟩ := HX.out.d
  by_cases h1 : n ≤ 9
  case neg =>
    have h1z : (9 : Int) < (n : Int) := by omega
    have HF : Hid (fineF D 0 0 400 = fineF D 0 0 400) := rfl
    go_enter Try.func5, Try.ntmps5
    go_wp2_with (first
      | (go_at_call 9; with_reducible refine Calls.mono (awake_any _) ?_; rintro e wc ⟨rfl, hb⟩; replace HX := hid (HX.out.below hb); clear hb; clear d0 d1 d2 d3 df; obtain ⟨d0, d1, d2, d3, df⟩ := HX.out.d)
      | (go_at_call 11; with_reducible refine Calls.mono (box_law D _) ?_; rintro e wc ⟨rfl, hb⟩; rw [HF.out]; replace HX := hid (HX.out.below hb); clear hb; clear d0 d1 d2 d3 df; obtain ⟨d0, d1, d2, d3, df⟩ := HX.out.d))
    go_ret
    exact ⟨rfl, HX.out.low⟩
  have h1z : ¬ (9 : Int) < (n : Int) := by omega
  rcases h2 : fineF D 0 0 400 with _ | _
  · have HF := hid h2
    clear h2
    go_enter Try.func5, Try.ntmps5
    go_wp2_with (first
      | (go_at_call 9; with_reducible refine Calls.mono (awake_any _) ?_; rintro e wc ⟨rfl, hb⟩; replace HX := hid (HX.out.below hb); clear hb; clear d0 d1 d2 d3 df; obtain ⟨d0, d1, d2, d3, df⟩ := HX.out.d)
      | (go_at_call 11; with_reducible refine Calls.mono (box_law D _) ?_; rintro e wc ⟨rfl, hb⟩; rw [HF.out]; replace HX := hid (HX.out.below hb); clear hb; clear d0 d1 d2 d3 df; obtain ⟨d0, d1, d2, d3, df⟩ := HX.out.d))
    go_ret
    exact ⟨rfl, HX.out.low⟩
  have HF := hid h2
  have HD : Hid (Ok D ∧ area D ≤ 5000) := hid ⟨(fine_area h2).1.ok, by have := (fine_area h2).2; omega⟩
  have HN : Hid (n ≤ 1000000) := hid (by omega)
  clear h2
  go_enter Try.func5, Try.ntmps5
  go_wp2_with (first
      | (go_at_call 9; with_reducible refine Calls.mono (awake_any _) ?_; rintro e wc ⟨rfl, hb⟩; replace HX := hid (HX.out.below hb); clear hb; clear d0 d1 d2 d3 df; obtain ⟨d0, d1, d2, d3, df⟩ := HX.out.d)
      | (go_at_call 11; with_reducible refine Calls.mono (box_law D _) ?_; rintro e wc ⟨rfl, hb⟩; rw [HF.out]; replace HX := hid (HX.out.below hb); clear hb; clear d0 d1 d2 d3 df; obtain ⟨d0, d1, d2, d3, df⟩ := HX.out.d))
  go_loopg [5] n (fun gh v5 wr => ∃ i : Nat, i ≤ n ∧ gh = n - i ∧ v5 = .int .i64 (i : Int) ∧ (∀ v, v ∈ L.take i → rightT v.B v.n v.l = true) ∧ Km W D wr)
  case atStart => exact ⟨0, Nat.zero_le _, rfl, rfl, fun v hv => by simp at hv, HX.out⟩
  case round =>
    clear HX
    clear d0 d1 d2 d3 df
    obtain ⟨i, hi, rfl, rfl, hall, hX⟩ := hrel
    have HX := hid hX
    have HALL := hid hall
    obtain ⟨d0, d1, d2, d3, df⟩ := HX.out.d
    by_cases hil : i < n
    · have hiz : (i : Int) < (n : Int) := by omega
      obtain ⟨v, hv⟩ : ∃ v, L[i]? = some v := ⟨_, List.getElem?_eq_getElem (by omega)⟩
      obtain ⟨rfl, ⟨e0, e1, e2, e3, e4⟩, hVv⟩ := vb_at (HV.out.below hX.low) hv
      have HVv := hid hVv
      have HHV := hid hv
      rcases ht : rightT v.B v.n v.l with _ | _
      · have HT := hid ht
        clear hX hall hv hVv ht
        go_wp2_with (go_at_call 10; with_reducible refine Calls.mono (right10_any v.B v.ao v.n v.m v.g v.off v.l _ HVv.out) ?_; rintro e w2 ⟨rfl, hb⟩; rw [HT.out]; have HB2 := hid (HX.out.below hb); clear hb)
        go_ret
        exact ⟨rfl, HB2.out.low⟩
      · have HT := hid ht
        clear hX hall hv hVv ht
        go_wp2_with (go_at_call 10; with_reducible refine Calls.mono (right10_any v.B v.ao v.n v.m v.g v.off v.l _ HVv.out) ?_; rintro e w2 ⟨rfl, hb⟩; rw [HT.out]; have HB2 := hid (HX.out.below hb); clear hb)
        go_roundg (n - (i + 1))
        case measure => omega
        case rel =>
          refine ⟨i + 1, by omega, rfl, by simp, fun u hu => ?_, HB2.out⟩
          rw [List.take_add_one, HHV.out, List.mem_append] at hu
          rcases hu with hu | hu
          · exact HALL.out u hu
          · simp only [Option.toList_some, List.mem_singleton] at hu
            rw [hu]
            exact HT.out
    · obtain rfl : n = i := by omega
      have HGB : Hid (∀ v, v ∈ L → Gb v) := hid fun v hv => gb_of (HV.out.v v hv) (HPP.out v hv) (hall v (by rw [List.take_of_length_le (by omega)]; exact hv))
      clear hX hall HALL
      replace HX := hid (HX.out.below (Below.refl _ _).drew)
      go_wp2
      refine wp_region_held_drew (S := (fun w' => w'.cell? ⟨W.heap.size, 0, none⟩ = some (.int .i64 D.x0) ∧ w'.cell? ⟨W.heap.size, 1, none⟩ = some (.int .i64 D.y0) ∧ w'.cell? ⟨W.heap.size, 2, none⟩ = some (.int .i64 D.x1) ∧ w'.cell? ⟨W.heap.size, 3, none⟩ = some (.int .i64 D.y1))) (by kernel_rfl) ?_ (fun hHeld => ?_)
      · exact ⟨HX.out.d.c0, HX.out.d.c1, HX.out.d.c2, HX.out.d.c3⟩
      generalize wr.drew = wd at HX hHeld ⊢
      refine wpAnyH_take (i := 0) (oi := { dst := some 31, op := Op.move (Operand.tmp 0), type := 42, pos := "law.go:54", after := #[], guard := none }) (v := ?_) rfl (by kernel_rfl) (by kernel_rfl) (by kernel_rfl) (fun _ _ _ h => h) (Or.inl ⟨by rfl, ?hy⟩) (by assumption) ?_
      case hy => (intro w hSw; (try dsimp only at hSw); go_simp; first | done | with_reducible rfl)
      try simp only [Act.put, List.setIfInBounds_toArray, List.set_cons_zero, List.set_cons_succ]
      refine wpAnyH_take (i := 1) (oi := { dst := some 32, op := Op.load 23 (Operand.tmp 3), type := 23, pos := "law.go:54", after := #[], guard := none }) (v := ?_) rfl (by kernel_rfl) (by kernel_rfl) (by kernel_rfl) (fun _ _ _ h => h) (Or.inl ⟨by rfl, ?hy⟩) (by assumption) ?_
      case hy => (intro w hSw; (try dsimp only at hSw); go_simp; first | done | with_reducible rfl)
      try simp only [Act.put, List.setIfInBounds_toArray, List.set_cons_zero, List.set_cons_succ]
      refine wpAnyH_take (i := 3) (oi := { dst := some 34, op := Op.move (Operand.tmp 0), type := 42, pos := "law.go:54", after := #[], guard := none }) (v := ?_) rfl (by kernel_rfl) (by kernel_rfl) (by kernel_rfl) (fun _ _ _ h => h) (Or.inl ⟨by rfl, ?hy⟩) (by assumption) ?_
      case hy => (intro w hSw; (try dsimp only at hSw); go_simp; first | done | with_reducible rfl)
      try simp only [Act.put, List.setIfInBounds_toArray, List.set_cons_zero, List.set_cons_succ]
      refine wpAnyH_take (i := 4) (oi := { dst := some 35, op := Op.load 23 (Operand.tmp 3), type := 23, pos := "law.go:54", after := #[], guard := none }) (v := ?_) rfl (by kernel_rfl) (by kernel_rfl) (by kernel_rfl) (fun _ _ _ h => h) (Or.inl ⟨by rfl, ?hy⟩) (by assumption) ?_
      case hy => (intro w hSw; (try dsimp only at hSw); go_simp; first | done | with_reducible rfl)
      try simp only [Act.put, List.setIfInBounds_toArray, List.set_cons_zero, List.set_cons_succ]
      refine wpAnyH_ready (rs := [2]) (by kernel_rfl) (by simp) ?_
      refine AllReadyH.cons (o := { dst := some 33, op := Op.call { callee := Callee.value (Operand.func 29), args := #[Operand.tmp 31, Operand.tmp 32], argTypes := #[42, 23] }, type := 26, pos := "law.go:54", after := #[{ on := 0, ground := Ground.data }, { on := 1, ground := Ground.data }], guard := none }) rfl (fun K hK => ?_) AllReadyH.nil
      go_simp
      (go_at_call 29; with_reducible refine Calls.mono (merge_any ao n c b off L D _ HN.out (HV.out.below HX.out.low) HGB.out HD.out.1 HD.out.2) ?_; rintro e wc ⟨hr, hb⟩; obtain ⟨uo, un, um, ug, uoff, rfl, hO, hg1, hg2, hln⟩ := retG hr; have HSu := hid hO.v; have HLu := hid hln; replace HX := hid (HX.out.below hb); clear hr hO hg1 hg2 hln hb)
      go_wp2_with fail
      refine hK.out _ _ ?_ (fun hHeld => ?_)
      · exact ⟨HX.out.d.c0, HX.out.d.c1, HX.out.d.c2, HX.out.d.c3⟩
      clear hK K
      try simp only [Act.put, List.setIfInBounds_toArray, List.set_cons_zero, List.set_cons_succ]
      refine wpAnyH_ready (rs := [5]) (by kernel_rfl) (by simp) ?_
      refine AllReadyH.cons (o := { dst := some 36, op := Op.call { callee := Callee.value (Operand.func 30), args := #[Operand.tmp 34, Operand.tmp 35], argTypes := #[42, 23] }, type := 26, pos := "law.go:54", after := #[{ on := 3, ground := Ground.data }, { on := 4, ground := Ground.data }, { on := 2, ground := Ground.chain }], guard := none }) rfl (fun K hK => ?_) AllReadyH.nil
      go_simp
      (go_at_call 30; with_reducible refine Calls.mono (refMerge_any ao n c b off L D _ HN.out (HV.out.below HX.out.low) HGB.out HD.out.1 HD.out.2) ?_; rintro e wc ⟨hr, hb⟩; obtain ⟨vo, vn, vm', vg, voff, rfl, hO, hg1, hg2, hln⟩ := retG hr; have hnn := HLu.out.symm.trans hln; subst hnn; have HSv := hid hO.v; replace HSu := hid (HSu.out.below hb); replace HX := hid (HX.out.below hb); clear hr hO hg1 hg2 hln hb)
      go_wp2_with fail
      refine hK.out _ _ ?_ (fun hHeld => ?_)
      · exact ⟨HX.out.d.c0, HX.out.d.c1, HX.out.d.c2, HX.out.d.c3⟩
      clear hK K
      try simp only [Act.put, List.setIfInBounds_toArray, List.set_cons_zero, List.set_cons_succ]
      refine wpAnyH_ready (rs := [6]) (by kernel_rfl) (by simp) ?_
      refine AllReadyH.cons (o := { dst := some 37, op := Op.call { callee := Callee.value (Operand.func 17), args := #[Operand.tmp 33, Operand.tmp 36], argTypes := #[26, 26] }, type := 4, pos := "law.go:54", after := #[{ on := 2, ground := Ground.data }, { on := 5, ground := Ground.data }, { on := 5, ground := Ground.chain }], guard := none }) rfl (fun K hK => ?_) AllReadyH.nil
      go_simp
      (go_at_call 17; with_reducible refine Calls.mono (same_yes (orN D) uo un um ug uoff vo vm' vg voff _ _ HSu.out HSv.out) ?_; rintro e wc ⟨rfl, hb⟩; replace HX := hid (HX.out.below hb); clear hb)
      go_wp2_with fail
      refine hK.out _ _ ?_ (fun hHeld => ?_)
      · exact ⟨HX.out.d.c0, HX.out.d.c1, HX.out.d.c2, HX.out.d.c3⟩
      clear hK K
      try simp only [Act.put, List.setIfInBounds_toArray, List.set_cons_zero, List.set_cons_succ]
      refine wpAnyH_take (i := 7) (oi := { dst := some 4, op := Op.assign (Operand.tmp 37), type := 4, pos := "law.go:54", after := #[{ on := 6, ground := Ground.data }, { on := 6, ground := Ground.chain }, { on := 0, ground := Ground.phase }, { on := 1, ground := Ground.phase }, { on := 2, ground := Ground.phase }, { on := 3, ground := Ground.phase }, { on := 4, ground := Ground.phase }, { on := 5, ground := Ground.phase }, { on := 6, ground := Ground.phase }], guard := none }) (v := ?_) rfl (by kernel_rfl) (by kernel_rfl) (by kernel_rfl) (fun _ _ _ h => h) (Or.inl ⟨by rfl, ?hy⟩) (by assumption) ?_
      case hy => (intro w hSw; (try dsimp only at hSw); go_simp; first | done | with_reducible rfl)
      try simp only [Act.put, List.setIfInBounds_toArray, List.set_cons_zero, List.set_cons_succ]
      refine wpAnyH_done (by kernel_rfl) ?_ _
      go_wp2
      go_ret
      exact ⟨rfl, HX.out.low⟩

theorem own : ownKnob Try.prog.godebug = none := by kernel_rfl

set_option maxRecDepth 100000 in
theorem lifted (os : Os) (started : os.Started) (H : Type) (enc : TypeId × Value → H) :
    ReturnsInHanded {} Try.checked os 5 .any (Rows.moveMergesSpec.pre6 enc Try.prog Try.f5 Rows.moveMergesRow.domain false) (Rows.moveMergesSpec.post enc Try.prog Try.f5 false true false false) := by
  refine returnsInHanded_of_change (C := Try.checked) own started (by kernel_rfl) Try.func5
    (ChangeSpec.witness6 (enc := enc) (C := Try.checked) false ⟨#[], #[.slice none 0 0, .agg #[.int .i64 0, .int .i64 0, .int .i64 0, .int .i64 0]], []⟩ 8 (by kernel_rfl) (by kernel_rfl) (by kernel_rfl) (by kernel_rfl)) ?_
  intro W base args ds gs before hval0 hW hcnd _
  have hval : ∀ (j : Nat) t v, Try.f5.params[j]? = some t → args[j]? = some v → Value.okWide Try.prog W .any base t v := hval0
  have hW' := hW
  obtain ⟨p, q, hA0, hV, rfl, hfz, hnd⟩ := hW
  have hA : DataW.TrodAll enc Try.prog W 0 (fun _ => true) true Try.f5.params.toList args.toList ds p := hA0
  rw [Try.params5] at hA hval
  obtain ⟨v0, vs0, d0, ds0, p0, q0, hargs, rfl, rfl, h0, r0⟩ := trodAll_cons hA
  obtain ⟨v1, vs1, d1, ds1, p1, q1, rfl, rfl, rfl, h1, r1⟩ := trodAll_cons r0
  obtain ⟨rfl, rfl, rfl⟩ := trodAll_nil r1
  obtain rfl : args = #[v0, v1] := by cases args; simp_all
  obtain ⟨rfl, rfl⟩ := trodVars_none hV
  obtain ⟨ao, n, c, b, off, L, rfl, hv0, hp0⟩ := open_bufs (hval 0 42 v0 rfl rfl) h0
  obtain ⟨D, rfl⟩ := open_rect (hval 1 23 v1 rfl rfl) h1
  clear hA0 hval0
  simp only [List.append_nil] at hW'
  have hlt : ∀ x ∈ p0 ++ (p1), x.block < W.heap.size := fun x hx => by simpa using hW'.lt x (by simpa using hx)
  refine (walk ao n c b off L D W hv0 hp0).mono fun e W' ⟨he, hg⟩ => ?_
  subst he
  have t0 := Below.trod laidOut (by kernel_rfl) (of_decide_eq_true (by kernel_rfl)) h0 hg (fun x hx => hlt x (List.mem_append_left _ hx))
  have t1 := Below.trod laidOut (by kernel_rfl) (of_decide_eq_true (by kernel_rfl)) h1 hg (fun x hx => hlt x (List.mem_append_right _ (hx)))
  exact ⟨_, rfl, ⟨_, _, _, _, _, _, hW', (trodAll_cons_mk (shut_bool Try.underlying4 _) trodAll_mk0), (trodAll_cons_mk t0 (trodAll_cons_mk t1 trodAll_mk0)), rfl, hg.frame _, fun h => by cases h⟩⟩

theorem over : Rows.moveMergesRow.holds Try.pinned (OpenSpec.ofChange Rows.moveMergesSpec) :=
  OpenClaim.holds_of_wide 5 Try.f5 rfl rfl rfl rfl rfl rfl rfl ⟨rfl, rfl, rfl, rfl, rfl⟩ rfl rfl rfl rfl rfl (by kernel_rfl) Try.func5 (by kernel_rfl)
    (of_decide_eq_true (by kernel_rfl)) (by unfold Func.isWrapper; first | (rw [if_pos (by decide +kernel)]; kernel_rfl) | (rw [if_neg (by decide +kernel)]; exact ⟨rfl, rfl⟩))
    (fun os started H enc _ => lifted os started H enc)

theorem proved : Rows.MoveMergesSaid := over
#print axioms proved
end Go.Proofs.Ytfgfgfmimejpdaa.moveMerges
