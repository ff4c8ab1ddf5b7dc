/- For every right filter of few nodes: a region that is handed in stays, whatever is written into what its spread answers; the document's tables as the program's own text lays them (tied). -/
import Derived.Test.YteiihgoobhlkbaaDoorRows
import Derived.Test.YteiihgoobhlkbaaDoorCards
import Derived.Test.YteiihgoobhlkbaaDoorTie
import Derived.WalkKit
import Derived.ProofKit
import Derived.OpenShut
import Derived.LaidMore
import Derived.SevenTiedAt
import Derived.Stop.Joined
import Derived.Test.YteiihgoobhlkbaaDoorOpen
import Derived.Test.YteiihgoobhlkbaaDoorRgOpen
import Derived.Test.YteiihgoobhlkbaaDoorFoSum
namespace Go.Proofs.YteiihgoobhlkbaaDoor.foreKeeps
open Go Go.ChangeShapes Go.WideShapes Go.ChangeAt Go.RowKit Num
open Rg.Num (Pr Ok Inv Wi setsL orF cutF Sub)
set_option linter.unusedVariables false
set_option linter.unusedSimpArgs false

set_option maxRecDepth 100000 in
set_option maxHeartbeats 4000000 in
theorem walk (ao : Option Addr) (n c b off : Nat) (L : List Nv) (out : Int) (ao1 : Option Addr) (n1 c1 b1 off1 : Nat) (l1 : List RR) (w : World) (h : Vn w ao n c b off L) (h1 : Rg.Vw w ao1 n1 c1 b1 off1 l1) (hT : Tabs w) :
    Calls Tryd.prog 4 #[.agg #[.slice ao n c, .int .i64 out], .slice ao1 n1 c1] w fun e w' => e = .returned (.bool true) ∧ Below w.heap.size w w' := by
  have hl := vn_len h
  have HS := hid (sg_new w ao n c out 24)
  have HV := hid h
  have HT := hid hT
  have HL1 := hid h1
  clear h hT h1
  rcases hr : rightG L out with _ | _
  · have HR := hid hr
    clear hr
    go_enter Tryd.func4, Tryd.ntmps4
    go_wp2_with (first
      | (go_at_call 5; with_reducible refine Calls.mono (awake_any _) ?_; rintro e wa ⟨rfl, hb⟩; replace HS := hid (sg_below HS.out hb); (try clear x0c x1c); obtain ⟨x0c, x1c⟩ := HS.out.1; clear hb)
      | (go_at_call 6; with_reducible refine Calls.mono (right_any _ _ _ b off L _ _ (HT.out.below HS.out.2) (HV.out.below HS.out.2)) ?_; rintro e wa ⟨rfl, hb⟩; rw [HR.out]; replace HS := hid (sg_below HS.out hb); (try clear x0c x1c); obtain ⟨x0c, x1c⟩ := HS.out.1; clear hb))
    go_ret
    exact ⟨rfl, HS.out.2⟩
  obtain ⟨hf, hp⟩ := right_few hl hr
  have HR := hid hr
  have HF := hid (And.intro hf hp)
  clear hr hf hp
  rcases hg1 : regG l1 with _ | _
  · have HG1 := hid hg1
    clear hg1
    go_enter Tryd.func4, Tryd.ntmps4
    go_wp2_with (first
      | (go_at_call 5; with_reducible refine Calls.mono (awake_any _) ?_; rintro e wa ⟨rfl, hb⟩; replace HS := hid (sg_below HS.out hb); (try clear x0c x1c); obtain ⟨x0c, x1c⟩ := HS.out.1; clear hb)
      | (go_at_call 6; with_reducible refine Calls.mono (right_any _ _ _ b off L _ _ (HT.out.below HS.out.2) (HV.out.below HS.out.2)) ?_; rintro e wa ⟨rfl, hb⟩; rw [HR.out]; replace HS := hid (sg_below HS.out hb); (try clear x0c x1c); obtain ⟨x0c, x1c⟩ := HS.out.1; clear hb)
      | (go_at_call 7; with_reducible refine Calls.mono (region_any ao1 n1 c1 b1 off1 l1 _ (Rg.Vz.below HL1.out HS.out.2)) ?_; rintro e wa ⟨rfl, hb⟩; rw [HG1.out]; replace HS := hid (sg_below HS.out hb); (try clear x0c x1c); obtain ⟨x0c, x1c⟩ := HS.out.1; clear hb))
    go_ret
    exact ⟨rfl, HS.out.2⟩
  have HG1 := hid hg1
  clear hg1
  by_cases hn6 : n ≤ 6
  case neg =>
    have hn6z : (6 : Int) < (n : Int) := by omega
    go_enter Tryd.func4, Tryd.ntmps4
    go_wp2_with (first
      | (go_at_call 5; with_reducible refine Calls.mono (awake_any _) ?_; rintro e wa ⟨rfl, hb⟩; replace HS := hid (sg_below HS.out hb); (try clear x0c x1c); obtain ⟨x0c, x1c⟩ := HS.out.1; clear hb)
      | (go_at_call 6; with_reducible refine Calls.mono (right_any _ _ _ b off L _ _ (HT.out.below HS.out.2) (HV.out.below HS.out.2)) ?_; rintro e wa ⟨rfl, hb⟩; rw [HR.out]; replace HS := hid (sg_below HS.out hb); (try clear x0c x1c); obtain ⟨x0c, x1c⟩ := HS.out.1; clear hb)
      | (go_at_call 7; with_reducible refine Calls.mono (region_any ao1 n1 c1 b1 off1 l1 _ (Rg.Vz.below HL1.out HS.out.2)) ?_; rintro e wa ⟨rfl, hb⟩; rw [HG1.out]; replace HS := hid (sg_below HS.out hb); (try clear x0c x1c); obtain ⟨x0c, x1c⟩ := HS.out.1; clear hb))
    go_ret
    exact ⟨rfl, HS.out.2⟩
  have hn6z : ¬ ((6 : Int) < (n : Int)) := by omega
  have HI1 := hid (ik_reg HG1.out L.length)
  have hlen := Rg.vw_len HL1.out
  have h16 : n1 ≤ 6 := by have := (reg_inv HG1.out).1; omega
  obtain ⟨i0, hi, hz0, hz1, hz2⟩ := info_parts Rg.info34
  have HI := hid (And.intro hi (And.intro hz0 (And.intro hz1 hz2)))
  clear hi hz0 hz1 hz2
  go_enter Tryd.func4, Tryd.ntmps4
  go_wp2_with (first
    | (go_at_call 5; with_reducible refine Calls.mono (awake_any _) ?_; rintro e wa ⟨rfl, hb⟩; replace HS := hid (sg_below HS.out hb); (try clear x0c x1c); obtain ⟨x0c, x1c⟩ := HS.out.1; clear hb)
    | (go_at_call 6; with_reducible refine Calls.mono (right_any _ _ _ b off L _ _ (HT.out.below HS.out.2) (HV.out.below HS.out.2)) ?_; rintro e wa ⟨rfl, hb⟩; rw [HR.out]; replace HS := hid (sg_below HS.out hb); (try clear x0c x1c); obtain ⟨x0c, x1c⟩ := HS.out.1; clear hb)
    | (go_at_call 7; with_reducible refine Calls.mono (region_any ao1 n1 c1 b1 off1 l1 _ (Rg.Vz.below HL1.out HS.out.2)) ?_; rintro e wa ⟨rfl, hb⟩; rw [HG1.out]; replace HS := hid (sg_below HS.out hb); (try clear x0c x1c); obtain ⟨x0c, x1c⟩ := HS.out.1; clear hb)
    | (at_builtin; refine Rg.wpList_append_mine _ rfl (.tmp 27) (.tmp 28) 26 26 rfl (Rg.oz_nil 4 _ _ _) (Nat.le_refl _) 34 i0 _ 32 Tryd.underlying26 HI.out.1 HI.out.2.1 HI.out.2.2.1 HI.out.2.2.2 rfl rfl _ n1 (Rg.flat l1) rfl (Rg.srcV Tryd.underlying26 (Rg.Vz.below HL1.out (alloc_low HS.out.2 _))) (by simp only [maxLen]; omega) (by omega) ?_; intro eo ec eb eoff w1 hO1 hB1 _ _; rw [Nat.zero_add, List.nil_append] at hO1; rw [Nat.zero_add]; replace HS := hid (sg_below HS.out (via (al _) hB1)); (try clear x0c x1c); obtain ⟨x0c, x1c⟩ := HS.out.1; have HW := hid hO1.v; clear hO1 hB1)
    | (go_at_call 9; with_reducible refine Calls.mono (spread_l (HV.out.below HS.out.2) HF.out.1 (Rg.Vz.below HL1.out HS.out.2) HF.out.2 hn6 HI1.out) ?_; rintro e w2 ⟨⟨N, hN, hr⟩, hb⟩; obtain ⟨xo, nx, xc, xb, xoff, rfl, hO⟩ := Rg.retO hr; have HX := hid (And.intro hO hb); (try clear x0c x1c); clear hr hb hO hN))
  have hnx := Rg.vw_small HX.out.1.v
  go_loopg [7] nx (fun g v7 wr => ∃ (k : Nat) (M : List RR), k ≤ nx ∧ g = nx - k ∧ v7 = .int .i64 k ∧ Rg.Ow w1.heap.size wr xo nx xc xb xoff M ∧ Below w1.heap.size w1 wr)
  case atStart => exact ⟨0, _, Nat.zero_le _, rfl, rfl, HX.out.1, HX.out.2⟩
  case round =>
    obtain ⟨k, M, hk, rfl, rfl, hO, hB⟩ := hrel
    have HO := hid (And.intro hO hB)
    have hMl := Rg.vw_len hO.v
    clear HX
    by_cases hlt : k < nx
    · have hlz : (k : Int) < (nx : Int) := by omega
      have hkM : k < M.length := by omega
      obtain ⟨rfl, hxb, hxw, r, g0, g1, g2, g3, f0, f1, f2, f3⟩ := Rg.ow_four hO hkM
      have HXB := hid hxb
      clear hO hB
      go_wp2
      go_roundg (nx - (k + 1))
      case measure => omega
      case rel => exact ⟨k + 1, M.set k ⟨0, 0, 0, 0⟩, hlt, rfl, by simp, Rg.ow_set4 HO.out.1 hkM ⟨0, 0, 0, 0⟩, Rg.below_set4 HO.out.2 HXB.out _ _ _ _ _ _ _ _⟩
    · obtain rfl : nx = k := by omega
      clear hO hB
      go_wp2_with (go_at_call 10; with_reducible refine Calls.mono (Rg.same_any ao1 n1 c1 b1 off1 l1 eo n1 ec eb eoff l1 _ (Rg.Vz.below HL1.out (via HS.out.2 HO.out.2)) (Rg.Vz.below HW.out HO.out.2)) ?_; rintro e w3 ⟨rfl, hb⟩; rw [decide_eq_true rfl]; have HE := hid (via (w := w) (via HS.out.2 HO.out.2) hb); clear hb)
      go_ret
      exact ⟨rfl, HE.out⟩

theorem own : ownKnob Tryd.prog.godebug = none := by kernel_rfl
theorem door_met (os : Os) (args : Array Value) : laidMetH Tryd.prog laid3 ((World.doorLaid Tryd.prog 24 os).forCall (fun _ _ => 0) ⟨#[], args, []⟩).memory :=
  laidMetH_of_parts3 (fuel := 8) (laidMet_of_run' 8 (by kernel_rfl) (by kernel_rfl)) (by kernel_rfl) (by kernel_rfl)

set_option maxHeartbeats 400000 in
set_option maxRecDepth 100000 in
theorem lifted (os : Os) (started : os.Started) (H : Type) (enc : TypeId × Value → H) :
    ReturnsInHanded {} Tryd.checked os 4 .any (fun w args => (Rows.foreKeepsSpec.pre enc Tryd.prog Tryd.f4 [] false w args ∧ laidMetH Tryd.prog laid3 w) ∧ sizedMet enc Tryd.prog Tryd.f4 (OpenSpec.ofChange Rows.foreKeepsSpec) false w args)
      (Rows.foreKeepsSpec.post enc Tryd.prog Tryd.f4 false true false false) := by
  refine returnsInHanded_of_change_and (C := Tryd.checked) (X := fun w _ => laidMetH Tryd.prog laid3 w) (fun _ _ _ hh h => h.of_heap hh) own started (by kernel_rfl) Tryd.func4
    (ChangeSpec.witness_shaped (enc := enc) (C := Tryd.checked) (os := os) (X := fun w _ => laidMetH Tryd.prog laid3 w) false (World.doorLaid Tryd.prog 24 os) #[.agg #[.slice none 0 0, .int .i64 0], .slice none 0 0] 8 rfl (World.shaped_of_RefB (by kernel_rfl) (by kernel_rfl)) (by kernel_rfl) (by kernel_rfl) (by kernel_rfl) (door_met os _)) ?_
  intro W base args ds gs before hval0 hW _ _ hL _
  have hval : ∀ (j : Nat) t v, Tryd.f4.params[j]? = some t → args[j]? = some v → Value.okWide Tryd.prog W .any base t v := hval0
  have hW' := hW
  obtain ⟨p, q, hA0, hV, rfl, hfz, hnd⟩ := hW
  have hA : DataW.TrodAll enc Tryd.prog W 0 (fun _ => true) true Tryd.f4.params.toList args.toList ds p := hA0
  rw [Tryd.params4] at hA hval
  obtain ⟨v0, vs0, d0, ds0, p0, q0, hargs, rfl, rfl, h0, r0⟩ := trodAll_cons hA
  obtain ⟨v1, vs1, d1, ds1, p1, q1, rfl, rfl, rfl, h1, r1⟩ := trodAll_cons r0
  obtain ⟨rfl, rfl, rfl⟩ := trodAll_nil r1
  obtain rfl : args = #[v0, v1] := by cases args; simp_all
  obtain ⟨rfl, rfl⟩ := trodVars_none hV
  obtain ⟨ao0, n0, c0, b0, off0, L0, out0, rfl, hv0⟩ := open_graph (hval 0 24 v0 rfl rfl) h0
  obtain ⟨ao1, n1, c1, b1, off1, l1, rfl, hv1⟩ := Rg.open_rects Tryd.underlying26 (hval 1 26 v1 rfl rfl) h1
  clear hA0 hval0
  have hT := tabs_of hL
  simp only [List.append_nil] at hW'
  have hlt0 : ∀ x ∈ p0, x.block < W.heap.size := fun x hx => hW'.lt x (by simp [hx])
  have hlt1 : ∀ x ∈ p1, x.block < W.heap.size := fun x hx => hW'.lt x (by simp [hx])
  refine (walk ao0 n0 c0 b0 off0 L0 out0 ao1 n1 c1 b1 off1 l1 W hv0 hv1 hT).mono fun e W' ⟨he, hg⟩ => ?_
  subst he
  have t0 := Below.trod laidOut (by kernel_rfl) (of_decide_eq_true (by kernel_rfl)) h0 hg (fun x hx => hlt0 x hx)
  have t1 := Below.trod laidOut (by kernel_rfl) (of_decide_eq_true (by kernel_rfl)) h1 hg (fun x hx => hlt1 x hx)
  exact ⟨_, rfl, ⟨_, _, _, _, _, _, hW', (trodAll_cons_mk (shut_bool Tryd.underlying4 _) trodAll_mk0), (trodAll_cons_mk t0 (trodAll_cons_mk t1 trodAll_mk0)), rfl, hg.frame _, fun h => by cases h⟩⟩

theorem over : Rows.ForeKeepsSaid :=
  OpenClaim.holds_of_wide 4 Tryd.f4 rfl rfl rfl rfl rfl rfl rfl ⟨rfl, rfl, rfl, rfl, rfl⟩ rfl rfl rfl rfl rfl (by kernel_rfl) Tryd.func4 (by kernel_rfl)
    (of_decide_eq_true (by kernel_rfl)) (by unfold Func.isWrapper; first | (rw [if_pos (by decide +kernel)]; kernel_rfl) | (rw [if_neg (by decide +kernel)]; exact ⟨rfl, rfl⟩))
    (fun os started H enc _ => lifted os started H enc)

theorem proved : Rows.ForeKeepsCardSaid :=
  Claim7.holds_tied_plain_at .later [] [.data, .data, .data] true (true, "ad8a9fccc4eeef64cb59ce3a68d027587dd8f4a61951f21109528af634589b24") true
    over (fun _ h => by cases h) (by kernel_rfl) (fun _ h => by cases h) foreKeeps_row_tie rfl ⟨rfl, rfl⟩ (by kernel_rfl) rfl
    (fun f fn hf hfn => by
      obtain rfl : f = 4 := Option.some.inj ((show Tryd.prog.funcNamed "gouache/gouachelaw13.ForeKeeps" = some 4 by kernel_rfl).symm.trans hf) |>.symm
      obtain rfl : fn = Tryd.f4 := (Option.some.inj (Tryd.func4.symm.trans hfn)).symm
      exact ⟨by kernel_rfl, fun j t ht => by
        rw [Tryd.params4] at ht
        have hm : t ∈ [24, 26] := by simpa using Array.mem_of_getElem? ht
        have hall : ([24, 26].all fun u => !Tryd.prog.wantsStandIn u) = true := by kernel_rfl
        exact (show Tryd.prog.wantsStandIn t = false by simpa using List.all_eq_true.1 hall t hm)⟩)
    (by kernel_rfl)
#print axioms proved
end Go.Proofs.YteiihgoobhlkbaaDoor.foreKeeps
