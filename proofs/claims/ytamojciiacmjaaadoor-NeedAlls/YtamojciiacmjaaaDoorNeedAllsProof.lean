/- For every right filter of few nodes, and every rectangle: what is needed of its nodes and of Source is what the document says. -/
import Derived.Test.YtamojciiacmjaaaDoorRows
import Derived.Test.YtamojciiacmjaaaDoorCards
import Derived.Test.YtamojciiacmjaaaDoorTie
import Derived.WalkKit
import Derived.ProofKit
import Derived.OpenShut
import Derived.LaidMore
import Derived.SevenTiedAt
import Derived.Stop.Joined
import Derived.Test.YtamojciiacmjaaaDoorNdOpen
namespace Go.Proofs.YtamojciiacmjaaaDoor.needAlls
open Go Go.ChangeShapes Go.WideShapes Go.ChangeAt Go.RowKit Num
open Rg.Num (R empB orN nil moveR grow meet join mvd mx mn cutR Ok Pr boxQ hasB rightB)
set_option linter.unusedVariables false
set_option linter.unusedSimpArgs false
attribute [local go_sem ↓] Rg.eqR
attribute [local go_sem] Rg.eq4_same

set_option maxRecDepth 100000 in
set_option maxHeartbeats 4000000 in
theorem walk (ao : Option Addr) (n c b off : Nat) (L : List Nv) (out : Int) (p q r s : Int) (w : World) (h : Vn w ao n c b off L) (hT : Tabs w) :
    Calls Tryd.prog 4 #[.agg #[.slice ao n c, .int .i64 out], .agg #[.int .i64 p, .int .i64 q, .int .i64 r, .int .i64 s]] w fun e w' => e = .returned (.bool true) ∧ Below w.heap.size w w' := by
  have hl := vn_len h
  have HS := hid (lg_new w ao n c out p q r s)
  have HV := hid h
  have HT := hid hT
  have HL := hid hl
  clear h hT
  rcases hr : rightG L out with _ | _
  · have HR := hid hr
    clear hr hl
    go_enter Tryd.func4, Tryd.ntmps4
    go_wp2_with (first
      | (go_at_call 8; with_reducible refine Calls.mono (awake_any _) ?_; rintro e wa ⟨rfl, hb⟩; replace HS := hid (HS.out.to hb); (try clear x0c x1c a0 a1 a2 a3 af); obtain ⟨x0c, x1c⟩ := HS.out.g.1; obtain ⟨a0, a1, a2, a3, af⟩ := id HS.out.s; (try clear jn j1); have jn := World.block_lt_of_cell? _ _ x0c; have j1 := World.block_lt_of_cell? _ _ a0; clear hb)
      | (go_at_call 14; with_reducible refine Calls.mono (right_any _ _ _ b off L _ _ (HT.out.below HS.out.low) (HV.out.below HS.out.low)) ?_; rintro e wa ⟨rfl, hb⟩; rw [HR.out]; replace HS := hid (HS.out.to hb); (try clear x0c x1c a0 a1 a2 a3 af); obtain ⟨x0c, x1c⟩ := HS.out.g.1; obtain ⟨a0, a1, a2, a3, af⟩ := id HS.out.s; (try clear jn j1); have jn := World.block_lt_of_cell? _ _ x0c; have j1 := World.block_lt_of_cell? _ _ a0; clear hb))
    go_ret
    exact ⟨rfl, HS.out.low⟩
  have hrf := rf_of hl hr
  have HR := hid hr
  have HF := hid hrf
  clear hr hrf hl
  rcases ho : rightB ⟨p, q, r, s⟩ with _ | _
  · have HO := hid ho
    clear ho
    go_enter Tryd.func4, Tryd.ntmps4
    go_wp2_with (first
      | (go_at_call 8; with_reducible refine Calls.mono (awake_any _) ?_; rintro e wa ⟨rfl, hb⟩; replace HS := hid (HS.out.to hb); (try clear x0c x1c a0 a1 a2 a3 af); obtain ⟨x0c, x1c⟩ := HS.out.g.1; obtain ⟨a0, a1, a2, a3, af⟩ := id HS.out.s; (try clear jn j1); have jn := World.block_lt_of_cell? _ _ x0c; have j1 := World.block_lt_of_cell? _ _ a0; clear hb)
      | (go_at_call 14; with_reducible refine Calls.mono (right_any _ _ _ b off L _ _ (HT.out.below HS.out.low) (HV.out.below HS.out.low)) ?_; rintro e wa ⟨rfl, hb⟩; rw [HR.out]; replace HS := hid (HS.out.to hb); (try clear x0c x1c a0 a1 a2 a3 af); obtain ⟨x0c, x1c⟩ := HS.out.g.1; obtain ⟨a0, a1, a2, a3, af⟩ := id HS.out.s; (try clear jn j1); have jn := World.block_lt_of_cell? _ _ x0c; have j1 := World.block_lt_of_cell? _ _ a0; clear hb)
      | (go_at_call 10; with_reducible refine Calls.mono (Rg.Rc.right_any p q r s _) ?_; rintro e wa ⟨rfl, hb⟩; rw [HO.out]; replace HS := hid (HS.out.to hb); (try clear x0c x1c a0 a1 a2 a3 af); obtain ⟨x0c, x1c⟩ := HS.out.g.1; obtain ⟨a0, a1, a2, a3, af⟩ := id HS.out.s; (try clear jn j1); have jn := World.block_lt_of_cell? _ _ x0c; have j1 := World.block_lt_of_cell? _ _ a0; clear hb))
    go_ret
    exact ⟨rfl, HS.out.low⟩
  have HO := hid ho
  have HK := hid (ok_right ho)
  have hn1 := HF.out.f.n
  clear ho
  go_enter Tryd.func4, Tryd.ntmps4
  go_wp2_with (first
    | (go_at_call 8; with_reducible refine Calls.mono (awake_any _) ?_; rintro e wa ⟨rfl, hb⟩; replace HS := hid (HS.out.to hb); (try clear x0c x1c a0 a1 a2 a3 af); obtain ⟨x0c, x1c⟩ := HS.out.g.1; obtain ⟨a0, a1, a2, a3, af⟩ := id HS.out.s; (try clear jn j1); have jn := World.block_lt_of_cell? _ _ x0c; have j1 := World.block_lt_of_cell? _ _ a0; clear hb)
    | (go_at_call 14; with_reducible refine Calls.mono (right_any _ _ _ b off L _ _ (HT.out.below HS.out.low) (HV.out.below HS.out.low)) ?_; rintro e wa ⟨rfl, hb⟩; rw [HR.out]; replace HS := hid (HS.out.to hb); (try clear x0c x1c a0 a1 a2 a3 af); obtain ⟨x0c, x1c⟩ := HS.out.g.1; obtain ⟨a0, a1, a2, a3, af⟩ := id HS.out.s; (try clear jn j1); have jn := World.block_lt_of_cell? _ _ x0c; have j1 := World.block_lt_of_cell? _ _ a0; clear hb)
    | (go_at_call 10; with_reducible refine Calls.mono (Rg.Rc.right_any p q r s _) ?_; rintro e wa ⟨rfl, hb⟩; rw [HO.out]; replace HS := hid (HS.out.to hb); (try clear x0c x1c a0 a1 a2 a3 af); obtain ⟨x0c, x1c⟩ := HS.out.g.1; obtain ⟨a0, a1, a2, a3, af⟩ := id HS.out.s; (try clear jn j1); have jn := World.block_lt_of_cell? _ _ x0c; have j1 := World.block_lt_of_cell? _ _ a0; clear hb)
    | (go_at_call 15; with_reducible refine Calls.mono (all_c (HV.out.below HS.out.low) HF.out HK.out) ?_; rintro e wl ⟨kl, rfl, hO, hb⟩; have H1 := hO; replace HS := hid (HS.out.to hb); (try clear x0c x1c a0 a1 a2 a3 af); obtain ⟨x0c, x1c⟩ := HS.out.g.1; obtain ⟨a0, a1, a2, a3, af⟩ := id HS.out.s; (try clear jn j1); have jn := World.block_lt_of_cell? _ _ x0c; have j1 := World.block_lt_of_cell? _ _ a0; clear hb; clear hO)
    | (go_at_call 16; with_reducible refine Calls.mono (refAll_c (HV.out.below (via (w := w) HS.out.low (al _))) HF.out HK.out) ?_; rintro e wm ⟨km, rfl, hO, hb⟩; have H2 := hO; have HB2 := hid (via (al _) hb); have H3 := hid ((Rg.Rc.Has4.new (W := wl) (k := wl.heap.size) rfl (.int .i64 (runN L out ⟨p, q, r, s⟩).2.x0) (.int .i64 (runN L out ⟨p, q, r, s⟩).2.y0) (.int .i64 (runN L out ⟨p, q, r, s⟩).2.x1) (.int .i64 (runN L out ⟨p, q, r, s⟩).2.y1) 26).below hb); replace HS := hid (HS.out.to HB2.out); clear hO hb x0c x1c a0 a1 a2 a3 af jn j1)
    | (go_at_call 11; with_reducible refine Calls.mono (same_yes _ n n kl 0 _ n km 0 (runN L out ⟨p, q, r, s⟩).1 _ ((H1.out.below (via HB2.out (al _))).v) ((H2.out.below (al _)).v)) ?_; rintro e wn ⟨rfl, hb⟩; have HB3 := hid (via (al _) hb); have H4 := hid ((Rg.Rc.Has4.new (W := wm) (k := wm.heap.size) rfl (.int .i64 (runN L out ⟨p, q, r, s⟩).2.x0) (.int .i64 (runN L out ⟨p, q, r, s⟩).2.y0) (.int .i64 (runN L out ⟨p, q, r, s⟩).2.x1) (.int .i64 (runN L out ⟨p, q, r, s⟩).2.y1) 26).below hb); obtain ⟨c0, c1, c2, c3, cf⟩ := id (H3.out.below HB3.out); obtain ⟨d0, d1, d2, d3, df⟩ := id H4.out; replace HS := hid (HS.out.to HB3.out); clear hb))
  go_ret
  exact ⟨rfl, HS.out.low⟩

theorem own : ownKnob Tryd.prog.godebug = none := by kernel_rfl
theorem door_met (os : Os) (args : Array Value) : laidMetH Tryd.prog laid3 ((World.doorLaid Tryd.prog 24 os).forCall (fun _ _ => 0) ⟨#[], args, []⟩).memory :=
  laidMetH_of_parts3 (fuel := 8) (laidMet_of_run' 8 (by kernel_rfl) (by kernel_rfl)) (by kernel_rfl) (by kernel_rfl)

set_option maxHeartbeats 400000 in
set_option maxRecDepth 100000 in
theorem lifted (os : Os) (started : os.Started) (H : Type) (enc : TypeId × Value → H) :
    ReturnsInHanded {} Tryd.checked os 4 .any (fun w args => (Rows.needAllsSpec.pre enc Tryd.prog Tryd.f4 [] false w args ∧ laidMetH Tryd.prog laid3 w) ∧ sizedMet enc Tryd.prog Tryd.f4 (OpenSpec.ofChange Rows.needAllsSpec) false w args)
      (Rows.needAllsSpec.post enc Tryd.prog Tryd.f4 false true false false) := by
  refine returnsInHanded_of_change_and (C := Tryd.checked) (X := fun w _ => laidMetH Tryd.prog laid3 w) (fun _ _ _ hh h => h.of_heap hh) own started (by kernel_rfl) Tryd.func4
    (ChangeSpec.witness_shaped (enc := enc) (C := Tryd.checked) (os := os) (X := fun w _ => laidMetH Tryd.prog laid3 w) false (World.doorLaid Tryd.prog 24 os) #[.agg #[.slice none 0 0, .int .i64 0], .agg #[.int .i64 0, .int .i64 0, .int .i64 0, .int .i64 0]] 8 rfl (World.shaped_of_RefB (by kernel_rfl) (by kernel_rfl)) (by kernel_rfl) (by kernel_rfl) (by kernel_rfl) (door_met os _)) ?_
  intro W base args ds gs before hval0 hW _ _ hL _
  have hval : ∀ (j : Nat) t v, Tryd.f4.params[j]? = some t → args[j]? = some v → Value.okWide Tryd.prog W .any base t v := hval0
  have hW' := hW
  obtain ⟨p, q, hA0, hV, rfl, hfz, hnd⟩ := hW
  have hA : DataW.TrodAll enc Tryd.prog W 0 (fun _ => true) true Tryd.f4.params.toList args.toList ds p := hA0
  rw [Tryd.params4] at hA hval
  obtain ⟨v0, vs0, d0, ds0, p0, q0, hargs, rfl, rfl, h0, r0⟩ := trodAll_cons hA
  obtain ⟨v1, vs1, d1, ds1, p1, q1, rfl, rfl, rfl, h1, r1⟩ := trodAll_cons r0
  obtain ⟨rfl, rfl, rfl⟩ := trodAll_nil r1
  obtain rfl : args = #[v0, v1] := by cases args; simp_all
  obtain ⟨rfl, rfl⟩ := trodVars_none hV
  obtain ⟨ao0, n0, c0, b0, off0, L0, out0, rfl, hv0⟩ := open_graph (hval 0 36 v0 rfl rfl) h0
  obtain ⟨x1, y1, z1, t1, rfl⟩ := open_rect (hval 1 26 v1 rfl rfl) h1
  clear hA0 hval0
  have hT := tabs_of hL
  simp only [List.append_nil] at hW'
  have hlt0 : ∀ x ∈ p0, x.block < W.heap.size := fun x hx => hW'.lt x (by simp [hx])
  have hlt1 : ∀ x ∈ p1, x.block < W.heap.size := fun x hx => hW'.lt x (by simp [hx])
  refine (walk ao0 n0 c0 b0 off0 L0 out0 x1 y1 z1 t1 W hv0 hT).mono fun e W' ⟨he, hg⟩ => ?_
  subst he
  have tr0 := Below.trod laidOut (by kernel_rfl) (of_decide_eq_true (by kernel_rfl)) h0 hg (fun x hx => hlt0 x hx)
  have tr1 := Below.trod laidOut (by kernel_rfl) (of_decide_eq_true (by kernel_rfl)) h1 hg (fun x hx => hlt1 x hx)
  exact ⟨_, rfl, ⟨_, _, _, _, _, _, hW', (trodAll_cons_mk (shut_bool Tryd.underlying4 _) trodAll_mk0), (trodAll_cons_mk tr0 (trodAll_cons_mk tr1 trodAll_mk0)), rfl, hg.frame _, fun h => by cases h⟩⟩

theorem over : Rows.NeedAllsSaid :=
  OpenClaim.holds_of_wide 4 Tryd.f4 rfl rfl rfl rfl rfl rfl rfl ⟨rfl, rfl, rfl, rfl, rfl⟩ rfl rfl rfl rfl rfl (by kernel_rfl) Tryd.func4 (by kernel_rfl)
    (of_decide_eq_true (by kernel_rfl)) (by unfold Func.isWrapper; first | (rw [if_pos (by decide +kernel)]; kernel_rfl) | (rw [if_neg (by decide +kernel)]; exact ⟨rfl, rfl⟩))
    (fun os started H enc _ => lifted os started H enc)

theorem proved : Rows.NeedAllsCardSaid :=
  Claim7.holds_tied_plain_at .later [] [.data, .data, .data] true (true, "71b3e36144abff0af242cc6e68620bceea4b925d8c9046e5d34f8d7acc8bfaac") true
    over (fun _ h => by cases h) (by kernel_rfl) (fun _ h => by cases h) needAlls_row_tie rfl ⟨rfl, rfl⟩ (by kernel_rfl) rfl
    (fun f fn hf hfn => by
      obtain rfl : f = 4 := Option.some.inj ((show Tryd.prog.funcNamed "gouache/gouachelaw14.NeedAlls" = some 4 by kernel_rfl).symm.trans hf) |>.symm
      obtain rfl : fn = Tryd.f4 := (Option.some.inj (Tryd.func4.symm.trans hfn)).symm
      exact ⟨by kernel_rfl, fun j t ht => by
        rw [Tryd.params4] at ht
        have hm : t ∈ [36, 26] := by simpa using Array.mem_of_getElem? ht
        have hall : ([36, 26].all fun u => !Tryd.prog.wantsStandIn u) = true := by kernel_rfl
        exact (show Tryd.prog.wantsStandIn t = false by simpa using List.all_eq_true.1 hall t hm)⟩)
    (by kernel_rfl)
#print axioms proved
end Go.Proofs.YtamojciiacmjaaaDoor.needAlls
