/- For every right filter of few nodes: a greater region spreads no less; nothing spreads to nothing; the document's tables as the program's own text lays them (tied). -/
import Derived.Test.YteiihgoobhlkbaaDoorRows
import Derived.Test.YteiihgoobhlkbaaDoorCards
import Derived.Test.YteiihgoobhlkbaaDoorTie
import Derived.WalkKit
import Derived.ProofKit
import Derived.OpenShut
import Derived.LaidMore
import Derived.SevenTiedAt
import Derived.Stop.Joined
import Derived.Test.YteiihgoobhlkbaaDoorOpen
import Derived.Test.YteiihgoobhlkbaaDoorRgOpen
import Derived.Test.YteiihgoobhlkbaaDoorFoSum
namespace Go.Proofs.YteiihgoobhlkbaaDoor.foreGrows
open Go Go.ChangeShapes Go.WideShapes Go.ChangeAt Go.RowKit Num
open Rg.Num (Pr Ok Inv Wi setsL orF cutF Sub)
set_option linter.unusedVariables false
set_option linter.unusedSimpArgs false

theorem le6 {L : List Nv} {n : Nat} (hl : L.length = n) (h : n ≤ 6) : L.length ≤ 6 := by omega
set_option maxRecDepth 100000 in
set_option maxHeartbeats 4000000 in
theorem walk (ao : Option Addr) (n c b off : Nat) (L : List Nv) (out : Int) (ao1 : Option Addr) (n1 c1 b1 off1 : Nat) (l1 : List RR) (ao2 : Option Addr) (n2 c2 b2 off2 : Nat) (l2 : List RR) (w : World) (h : Vn w ao n c b off L) (h1 : Rg.Vw w ao1 n1 c1 b1 off1 l1) (h2 : Rg.Vw w ao2 n2 c2 b2 off2 l2) (hT : Tabs w) :
    Calls Tryd.prog 3 #[.agg #[.slice ao n c, .int .i64 out], .slice ao1 n1 c1, .slice ao2 n2 c2] w fun e w' => e = .returned (.bool true) ∧ Below w.heap.size w w' := by
  have hl := vn_len h
  have HS := hid (sg_new w ao n c out 24)
  have HV := hid h
  have HT := hid hT
  have HL1 := hid h1
  have HL2 := hid h2
  clear h hT h1 h2
  rcases hr : rightG L out with _ | _
  · have HR := hid hr
    clear hr
    go_enter Tryd.func3, Tryd.ntmps3
    go_wp2_with (first
      | (go_at_call 5; with_reducible refine Calls.mono (awake_any _) ?_; rintro e wa ⟨rfl, hb⟩; replace HS := hid (sg_below HS.out hb); (try clear x0c x1c); obtain ⟨x0c, x1c⟩ := HS.out.1; clear hb)
      | (go_at_call 6; with_reducible refine Calls.mono (right_any _ _ _ b off L _ _ (HT.out.below HS.out.2) (HV.out.below HS.out.2)) ?_; rintro e wa ⟨rfl, hb⟩; rw [HR.out]; replace HS := hid (sg_below HS.out hb); (try clear x0c x1c); obtain ⟨x0c, x1c⟩ := HS.out.1; clear hb))
    go_ret
    exact ⟨rfl, HS.out.2⟩
  obtain ⟨hf, hp⟩ := right_few hl hr
  have HR := hid hr
  have HF := hid (And.intro hf hp)
  clear hr hf hp
  rcases hg1 : regG l1 with _ | _
  · have HG1 := hid hg1
    clear hg1
    go_enter Tryd.func3, Tryd.ntmps3
    go_wp2_with (first
      | (go_at_call 5; with_reducible refine Calls.mono (awake_any _) ?_; rintro e wa ⟨rfl, hb⟩; replace HS := hid (sg_below HS.out hb); (try clear x0c x1c); obtain ⟨x0c, x1c⟩ := HS.out.1; clear hb)
      | (go_at_call 6; with_reducible refine Calls.mono (right_any _ _ _ b off L _ _ (HT.out.below HS.out.2) (HV.out.below HS.out.2)) ?_; rintro e wa ⟨rfl, hb⟩; rw [HR.out]; replace HS := hid (sg_below HS.out hb); (try clear x0c x1c); obtain ⟨x0c, x1c⟩ := HS.out.1; clear hb)
      | (go_at_call 7; with_reducible refine Calls.mono (region_any ao1 n1 c1 b1 off1 l1 _ (Rg.Vz.below HL1.out HS.out.2)) ?_; rintro e wa ⟨rfl, hb⟩; rw [HG1.out]; replace HS := hid (sg_below HS.out hb); (try clear x0c x1c); obtain ⟨x0c, x1c⟩ := HS.out.1; clear hb))
    go_ret
    exact ⟨rfl, HS.out.2⟩
  have HG1 := hid hg1
  clear hg1
  rcases hg2 : regG l2 with _ | _
  · have HG2 := hid hg2
    clear hg2
    go_enter Tryd.func3, Tryd.ntmps3
    go_wp2_with (first
      | (go_at_call 5; with_reducible refine Calls.mono (awake_any _) ?_; rintro e wa ⟨rfl, hb⟩; replace HS := hid (sg_below HS.out hb); (try clear x0c x1c); obtain ⟨x0c, x1c⟩ := HS.out.1; clear hb)
      | (go_at_call 6; with_reducible refine Calls.mono (right_any _ _ _ b off L _ _ (HT.out.below HS.out.2) (HV.out.below HS.out.2)) ?_; rintro e wa ⟨rfl, hb⟩; rw [HR.out]; replace HS := hid (sg_below HS.out hb); (try clear x0c x1c); obtain ⟨x0c, x1c⟩ := HS.out.1; clear hb)
      | (go_at_call 7; with_reducible refine Calls.mono (region_any ao1 n1 c1 b1 off1 l1 _ (Rg.Vz.below HL1.out HS.out.2)) ?_; rintro e wa ⟨rfl, hb⟩; rw [HG1.out]; replace HS := hid (sg_below HS.out hb); (try clear x0c x1c); obtain ⟨x0c, x1c⟩ := HS.out.1; clear hb)
      | (go_at_call 7; with_reducible refine Calls.mono (region_any ao2 n2 c2 b2 off2 l2 _ (Rg.Vz.below HL2.out HS.out.2)) ?_; rintro e wa ⟨rfl, hb⟩; rw [HG2.out]; replace HS := hid (sg_below HS.out hb); (try clear x0c x1c); obtain ⟨x0c, x1c⟩ := HS.out.1; clear hb))
    go_ret
    exact ⟨rfl, HS.out.2⟩
  have HG2 := hid hg2
  clear hg2
  by_cases hn6 : n ≤ 6
  case neg =>
    have hn6z : (6 : Int) < (n : Int) := by omega
    go_enter Tryd.func3, Tryd.ntmps3
    go_wp2_with (first
      | (go_at_call 5; with_reducible refine Calls.mono (awake_any _) ?_; rintro e wa ⟨rfl, hb⟩; replace HS := hid (sg_below HS.out hb); (try clear x0c x1c); obtain ⟨x0c, x1c⟩ := HS.out.1; clear hb)
      | (go_at_call 6; with_reducible refine Calls.mono (right_any _ _ _ b off L _ _ (HT.out.below HS.out.2) (HV.out.below HS.out.2)) ?_; rintro e wa ⟨rfl, hb⟩; rw [HR.out]; replace HS := hid (sg_below HS.out hb); (try clear x0c x1c); obtain ⟨x0c, x1c⟩ := HS.out.1; clear hb)
      | (go_at_call 7; with_reducible refine Calls.mono (region_any ao1 n1 c1 b1 off1 l1 _ (Rg.Vz.below HL1.out HS.out.2)) ?_; rintro e wa ⟨rfl, hb⟩; rw [HG1.out]; replace HS := hid (sg_below HS.out hb); (try clear x0c x1c); obtain ⟨x0c, x1c⟩ := HS.out.1; clear hb)
      | (go_at_call 7; with_reducible refine Calls.mono (region_any ao2 n2 c2 b2 off2 l2 _ (Rg.Vz.below HL2.out HS.out.2)) ?_; rintro e wa ⟨rfl, hb⟩; rw [HG2.out]; replace HS := hid (sg_below HS.out hb); (try clear x0c x1c); obtain ⟨x0c, x1c⟩ := HS.out.1; clear hb))
    go_ret
    exact ⟨rfl, HS.out.2⟩
  have hn6z : ¬ ((6 : Int) < (n : Int)) := by omega
  have h12 : l1.length + l2.length ≤ 1000 := by have h1 := (reg_inv HG1.out).1; have h2 := (reg_inv HG2.out).1; omega
  have H12 := hid h12
  have HI1 := hid (And.intro (ik_reg HG1.out L.length) (ik_both HG1.out HG2.out L.length))
  clear h12
  go_enter Tryd.func3, Tryd.ntmps3
  go_wp2_with (first
    | (go_at_call 5; with_reducible refine Calls.mono (awake_any _) ?_; rintro e wa ⟨rfl, hb⟩; replace HS := hid (sg_below HS.out hb); (try clear x0c x1c); obtain ⟨x0c, x1c⟩ := HS.out.1; clear hb)
    | (go_at_call 6; with_reducible refine Calls.mono (right_any _ _ _ b off L _ _ (HT.out.below HS.out.2) (HV.out.below HS.out.2)) ?_; rintro e wa ⟨rfl, hb⟩; rw [HR.out]; replace HS := hid (sg_below HS.out hb); (try clear x0c x1c); obtain ⟨x0c, x1c⟩ := HS.out.1; clear hb)
    | (go_at_call 7; with_reducible refine Calls.mono (region_any ao1 n1 c1 b1 off1 l1 _ (Rg.Vz.below HL1.out HS.out.2)) ?_; rintro e wa ⟨rfl, hb⟩; rw [HG1.out]; replace HS := hid (sg_below HS.out hb); (try clear x0c x1c); obtain ⟨x0c, x1c⟩ := HS.out.1; clear hb)
    | (go_at_call 7; with_reducible refine Calls.mono (region_any ao2 n2 c2 b2 off2 l2 _ (Rg.Vz.below HL2.out HS.out.2)) ?_; rintro e wa ⟨rfl, hb⟩; rw [HG2.out]; replace HS := hid (sg_below HS.out hb); (try clear x0c x1c); obtain ⟨x0c, x1c⟩ := HS.out.1; clear hb)
    | (go_at_call 8; with_reducible refine Calls.mono (both_c (Rg.Vz.below HL1.out HS.out.2) (Rg.Vz.below HL2.out HS.out.2) H12.out) ?_; rintro e wb ⟨hr, hb⟩; obtain ⟨ao3, n3, c3, b3, o3, rfl, hO⟩ := Rg.retO hr; have H3 := hid hO.v; replace HS := hid (sg_below HS.out hb); (try clear x0c x1c); obtain ⟨x0c, x1c⟩ := HS.out.1; clear hr hb hO)
    | (go_at_call 9; with_reducible refine Calls.mono (spread_l (HV.out.below HS.out.2) HF.out.1 (Rg.Vz.below HL1.out HS.out.2) HF.out.2 hn6 HI1.out.1) ?_; rintro e wb ⟨⟨N, hN, hr⟩, hb⟩; obtain ⟨ao4, n4, c4, b4, o4, rfl, hO⟩ := Rg.retO hr; have H4 := hid (And.intro hN hO.v); replace H3 := hid (Rg.Vz.below H3.out hb); replace HS := hid (sg_below HS.out hb); (try clear x0c x1c); obtain ⟨x0c, x1c⟩ := HS.out.1; clear hr hb hO hN)
    | (go_at_call 9; with_reducible refine Calls.mono (spread_l (HV.out.below HS.out.2) HF.out.1 H3.out HF.out.2 hn6 HI1.out.2) ?_; rintro e wb ⟨⟨N2, hN, hr⟩, hb⟩; obtain ⟨ao5, n5, c5, b5, o5, rfl, hO⟩ := Rg.retO hr; have h5 := nd_uniq hN H4.out.1; subst h5; have H5 := hid hO.v; replace H4 := hid (And.intro H4.out.1 (Rg.Vz.below H4.out.2 hb)); replace HS := hid (sg_below HS.out hb); (try clear x0c x1c); obtain ⟨x0c, x1c⟩ := HS.out.1; clear hr hb hO hN)
    | (go_at_call 8; with_reducible refine Calls.mono (cut_c H4.out.2 H5.out (inv_spread HF.out.2 (le6 hl hn6) _ _ HI1.out.1) (inv_spread HF.out.2 (le6 hl hn6) _ _ HI1.out.2) (sub_spread HF.out.2 _ _ (Rg.Num.sub_left l1 l2) HI1.out.1 HI1.out.2)) ?_; rintro e wb ⟨ao6, c6, rfl, hb⟩; replace HS := hid (sg_below HS.out hb); (try clear x0c x1c); obtain ⟨x0c, x1c⟩ := HS.out.1; clear hb)
    | (go_at_call 9; with_reducible refine Calls.mono (none_c (HV.out.below HS.out.2) HF.out.1 HF.out.2 hn6) ?_; rintro e wb ⟨ao7, c7, rfl, hb⟩; replace HS := hid (sg_below HS.out hb); (try clear x0c x1c); obtain ⟨x0c, x1c⟩ := HS.out.1; clear hb))
  go_ret
  exact ⟨rfl, HS.out.2⟩

theorem own : ownKnob Tryd.prog.godebug = none := by kernel_rfl
theorem door_met (os : Os) (args : Array Value) : laidMetH Tryd.prog laid3 ((World.doorLaid Tryd.prog 24 os).forCall (fun _ _ => 0) ⟨#[], args, []⟩).memory :=
  laidMetH_of_parts3 (fuel := 8) (laidMet_of_run' 8 (by kernel_rfl) (by kernel_rfl)) (by kernel_rfl) (by kernel_rfl)

set_option maxHeartbeats 400000 in
set_option maxRecDepth 100000 in
theorem lifted (os : Os) (started : os.Started) (H : Type) (enc : TypeId × Value → H) :
    ReturnsInHanded {} Tryd.checked os 3 .any (fun w args => (Rows.foreGrowsSpec.pre enc Tryd.prog Tryd.f3 [] false w args ∧ laidMetH Tryd.prog laid3 w) ∧ sizedMet enc Tryd.prog Tryd.f3 (OpenSpec.ofChange Rows.foreGrowsSpec) false w args)
      (Rows.foreGrowsSpec.post enc Tryd.prog Tryd.f3 false true false false) := by
  refine returnsInHanded_of_change_and (C := Tryd.checked) (X := fun w _ => laidMetH Tryd.prog laid3 w) (fun _ _ _ hh h => h.of_heap hh) own started (by kernel_rfl) Tryd.func3
    (ChangeSpec.witness_shaped (enc := enc) (C := Tryd.checked) (os := os) (X := fun w _ => laidMetH Tryd.prog laid3 w) false (World.doorLaid Tryd.prog 24 os) #[.agg #[.slice none 0 0, .int .i64 0], .slice none 0 0, .slice none 0 0] 8 rfl (World.shaped_of_RefB (by kernel_rfl) (by kernel_rfl)) (by kernel_rfl) (by kernel_rfl) (by kernel_rfl) (door_met os _)) ?_
  intro W base args ds gs before hval0 hW _ _ hL _
  have hval : ∀ (j : Nat) t v, Tryd.f3.params[j]? = some t → args[j]? = some v → Value.okWide Tryd.prog W .any base t v := hval0
  have hW' := hW
  obtain ⟨p, q, hA0, hV, rfl, hfz, hnd⟩ := hW
  have hA : DataW.TrodAll enc Tryd.prog W 0 (fun _ => true) true Tryd.f3.params.toList args.toList ds p := hA0
  rw [Tryd.params3] at hA hval
  obtain ⟨v0, vs0, d0, ds0, p0, q0, hargs, rfl, rfl, h0, r0⟩ := trodAll_cons hA
  obtain ⟨v1, vs1, d1, ds1, p1, q1, rfl, rfl, rfl, h1, r1⟩ := trodAll_cons r0
  obtain ⟨v2, vs2, d2, ds2, p2, q2, rfl, rfl, rfl, h2, r2⟩ := trodAll_cons r1
  obtain ⟨rfl, rfl, rfl⟩ := trodAll_nil r2
  obtain rfl : args = #[v0, v1, v2] := by cases args; simp_all
  obtain ⟨rfl, rfl⟩ := trodVars_none hV
  obtain ⟨ao0, n0, c0, b0, off0, L0, out0, rfl, hv0⟩ := open_graph (hval 0 24 v0 rfl rfl) h0
  obtain ⟨ao1, n1, c1, b1, off1, l1, rfl, hv1⟩ := Rg.open_rects Tryd.underlying26 (hval 1 26 v1 rfl rfl) h1
  obtain ⟨ao2, n2, c2, b2, off2, l2, rfl, hv2⟩ := Rg.open_rects Tryd.underlying26 (hval 2 26 v2 rfl rfl) h2
  clear hA0 hval0
  have hT := tabs_of hL
  simp only [List.append_nil] at hW'
  have hlt0 : ∀ x ∈ p0, x.block < W.heap.size := fun x hx => hW'.lt x (by simp [hx])
  have hlt1 : ∀ x ∈ p1, x.block < W.heap.size := fun x hx => hW'.lt x (by simp [hx])
  have hlt2 : ∀ x ∈ p2, x.block < W.heap.size := fun x hx => hW'.lt x (by simp [hx])
  refine (walk ao0 n0 c0 b0 off0 L0 out0 ao1 n1 c1 b1 off1 l1 ao2 n2 c2 b2 off2 l2 W hv0 hv1 hv2 hT).mono fun e W' ⟨he, hg⟩ => ?_
  subst he
  have t0 := Below.trod laidOut (by kernel_rfl) (of_decide_eq_true (by kernel_rfl)) h0 hg (fun x hx => hlt0 x hx)
  have t1 := Below.trod laidOut (by kernel_rfl) (of_decide_eq_true (by kernel_rfl)) h1 hg (fun x hx => hlt1 x hx)
  have t2 := Below.trod laidOut (by kernel_rfl) (of_decide_eq_true (by kernel_rfl)) h2 hg (fun x hx => hlt2 x hx)
  exact ⟨_, rfl, ⟨_, _, _, _, _, _, hW', (trodAll_cons_mk (shut_bool Tryd.underlying4 _) trodAll_mk0), (trodAll_cons_mk t0 (trodAll_cons_mk t1 (trodAll_cons_mk t2 trodAll_mk0))), rfl, hg.frame _, fun h => by cases h⟩⟩

theorem over : Rows.ForeGrowsSaid :=
  OpenClaim.holds_of_wide 3 Tryd.f3 rfl rfl rfl rfl rfl rfl rfl ⟨rfl, rfl, rfl, rfl, rfl⟩ rfl rfl rfl rfl rfl (by kernel_rfl) Tryd.func3 (by kernel_rfl)
    (of_decide_eq_true (by kernel_rfl)) (by unfold Func.isWrapper; first | (rw [if_pos (by decide +kernel)]; kernel_rfl) | (rw [if_neg (by decide +kernel)]; exact ⟨rfl, rfl⟩))
    (fun os started H enc _ => lifted os started H enc)

theorem proved : Rows.ForeGrowsCardSaid :=
  Claim7.holds_tied_plain_at .later [] [.data, .data, .data] true (true, "ad8a9fccc4eeef64cb59ce3a68d027587dd8f4a61951f21109528af634589b24") true
    over (fun _ h => by cases h) (by kernel_rfl) (fun _ h => by cases h) foreGrows_row_tie rfl ⟨rfl, rfl⟩ (by kernel_rfl) rfl
    (fun f fn hf hfn => by
      obtain rfl : f = 3 := Option.some.inj ((show Tryd.prog.funcNamed "gouache/gouachelaw13.ForeGrows" = some 3 by kernel_rfl).symm.trans hf) |>.symm
      obtain rfl : fn = Tryd.f3 := (Option.some.inj (Tryd.func3.symm.trans hfn)).symm
      exact ⟨by kernel_rfl, fun j t ht => by
        rw [Tryd.params3] at ht
        have hm : t ∈ [24, 26, 26] := by simpa using Array.mem_of_getElem? ht
        have hall : ([24, 26, 26].all fun u => !Tryd.prog.wantsStandIn u) = true := by kernel_rfl
        exact (show Tryd.prog.wantsStandIn t = false by simpa using List.all_eq_true.1 hall t hm)⟩)
    (by kernel_rfl)
#print axioms proved
end Go.Proofs.YteiihgoobhlkbaaDoor.foreGrows
