/- For every filter: whether it may be, or why not, by the code and by the document; the document's tables as the program's own text lays them (tied). -/
import Derived.Test.YtleclkjinkbebaaDoorRows
import Derived.Test.YtleclkjinkbebaaDoorCards
import Derived.Test.YtleclkjinkbebaaDoorTie
import Derived.WalkKit
import Derived.ProofKit
import Derived.OpenShut
import Derived.LaidMore
import Derived.SevenTiedAt
import Derived.Stop.Joined
import Derived.Test.YtleclkjinkbebaaDoorOpen
import Derived.Test.YtleclkjinkbebaaDoorRefs5
namespace Go.Proofs.YtleclkjinkbebaaDoor.nodeChecks
open Go Go.ChangeShapes Go.WideShapes Go.ChangeAt Go.RowKit Num
set_option linter.unusedVariables false
set_option linter.unusedSimpArgs false

section
variable {w : World} {ao : Option Addr} {n c : Nat} {out : Int} {w' : World} {b off : Nat} {L : List Nv}
theorem refCheck_s (h : Vn w ao n c b off L) (hf : Few n L) (hT : Tabs w) {x : Int} (hx : checkI L out = x) (hs : Sg w ao n c out w') : Calls Tryd.prog 13 #[.agg #[.slice ao n c, .int .i64 out]] w' fun e w2 => e = .returned (.int .i64 x) ∧ Below w'.heap.size w' w2 := by
  subst hx; exact refCheck_any ao n c b off L out w' (hT.below hs.2) (h.below hs.2) hf
end
set_option maxRecDepth 100000 in
set_option maxHeartbeats 2000000 in
theorem walk (ao : Option Addr) (n c b off : Nat) (L : List Nv) (out : Int) (w : World) (h : Vn w ao n c b off L) (hT : Tabs w) :
    Calls Tryd.prog 5 #[.agg #[.slice ao n c, .int .i64 out]] w fun e w' => e = .returned (.bool true) ∧ Below w.heap.size w w' := by
  have hl := vn_len h
  have hs0 := sg_new w ao n c out 35
  have HS := hid hs0
  have HV := hid h
  have HT := hid hT
  clear h hs0 hT
  rcases hfew : fewB L 300 with _ | _
  · have HF := hid hfew
    clear hfew
    go_enter Tryd.func5, Tryd.ntmps5
    go_wp2_with (first
      | (go_at_call 11; with_reducible refine Calls.mono (few_any _ _ _ b off L _ 300 _ (HV.out.below HS.out.2) (by decide)) ?_; rintro e w2 ⟨rfl, hb⟩; replace HS := hid (sg_below HS.out hb); rw [HF.out]; clear hb)
      | (go_at_call 8; with_reducible refine Calls.mono (awake_any _) ?_; rintro e w1 ⟨rfl, hb⟩; replace HS := hid (sg_below HS.out hb); clear hb))
    go_ret
    exact ⟨rfl, HS.out.2⟩
  obtain ⟨hn, hf, -⟩ := few_of hl hfew (by decide)
  have HF := hid (And.intro hfew hf)
  obtain ⟨x, hx⟩ : ∃ x, x = checkI L out := ⟨_, rfl⟩
  have HX := hid hx.symm
  clear hfew hf hl hx
  go_enter Tryd.func5, Tryd.ntmps5
  go_wp2_with (go_at_call 11; with_reducible refine Calls.mono (few_any _ _ _ b off L _ 300 _ (HV.out.below HS.out.2) (by decide)) ?_; rintro e w2 ⟨rfl, hb⟩; replace HS := hid (sg_below HS.out hb); rw [HF.out.1]; clear hb)
  have hS := HS.out
  go_region_held3 (fun w' => (w'.cell? ⟨w.heap.size, 0, none⟩ = some (.slice ao n c) ∧ w'.cell? ⟨w.heap.size, 1, none⟩ = some (.int .i64 out)) ∧ Below w.heap.size w w') (repeat (first | with_reducible assumption | with_reducible refine sg_drew ?_ | with_reducible refine sg_below ?_ ‹_›)) ((first
    | (go_at_call 8; with_reducible refine Calls.mono (awake_any _) ?_; rintro e w3 ⟨rfl, hb⟩)
    | (go_at_call 12; with_reducible refine Calls.mono (check_s HV.out HF.out.2 HX.out (by with_reducible assumption)) ?_; rintro e w4 ⟨rfl, hb⟩)
    | (go_at_call 13; with_reducible refine Calls.mono (refCheck_s HV.out HF.out.2 HT.out HX.out (by with_reducible assumption)) ?_; rintro e w5 ⟨rfl, hb⟩)))
  rename_i hh
  have HH := hid hh
  clear hh hS
  go_wp2
  go_ret
  exact ⟨ret_bool (by simp), HH.out.2⟩

theorem own : ownKnob Tryd.prog.godebug = none := by kernel_rfl
theorem door_met (os : Os) (args : Array Value) : laidMetH Tryd.prog laid3 ((World.doorLaid Tryd.prog 24 os).forCall (fun _ _ => 0) ⟨#[], args, []⟩).memory :=
  laidMetH_of_parts3 (fuel := 8) (laidMet_of_run' 8 (by kernel_rfl) (by kernel_rfl)) (by kernel_rfl) (by kernel_rfl)

set_option maxHeartbeats 400000 in
set_option maxRecDepth 100000 in
theorem lifted (os : Os) (started : os.Started) (H : Type) (enc : TypeId × Value → H) :
    ReturnsInHanded {} Tryd.checked os 5 .any (fun w args => (Rows.nodeChecksSpec.pre enc Tryd.prog Tryd.f5 [] false w args ∧ laidMetH Tryd.prog laid3 w) ∧ sizedMet enc Tryd.prog Tryd.f5 (OpenSpec.ofChange Rows.nodeChecksSpec) false w args)
      (Rows.nodeChecksSpec.post enc Tryd.prog Tryd.f5 false true false false) := by
  refine returnsInHanded_of_change_and (C := Tryd.checked) (X := fun w _ => laidMetH Tryd.prog laid3 w) (fun _ _ _ hh h => h.of_heap hh) own started (by kernel_rfl) Tryd.func5
    (ChangeSpec.witness_shaped (enc := enc) (C := Tryd.checked) (os := os) (X := fun w _ => laidMetH Tryd.prog laid3 w) false (World.doorLaid Tryd.prog 24 os) #[.agg #[.slice none 0 0, .int .i64 0]] 8 rfl (World.shaped_of_RefB (by kernel_rfl) (by kernel_rfl)) (by kernel_rfl) (by kernel_rfl) (by kernel_rfl) (door_met os _)) ?_
  intro W base args ds gs before hval0 hW _ _ hL _
  have hval : ∀ (j : Nat) t v, Tryd.f5.params[j]? = some t → args[j]? = some v → Value.okWide Tryd.prog W .any base t v := hval0
  have hW' := hW
  obtain ⟨p, q, hA0, hV, rfl, hfz, hnd⟩ := hW
  have hA : DataW.TrodAll enc Tryd.prog W 0 (fun _ => true) true Tryd.f5.params.toList args.toList ds p := hA0
  rw [Tryd.params5] at hA hval
  obtain ⟨v0, vs0, d0, ds0, p0, q0, hargs, rfl, rfl, h0, r0⟩ := trodAll_cons hA
  obtain ⟨rfl, rfl, rfl⟩ := trodAll_nil r0
  obtain rfl : args = #[v0] := by cases args; simp_all
  obtain ⟨rfl, rfl⟩ := trodVars_none hV
  obtain ⟨ao0, n0, c0, b0, off0, L0, out0, rfl, hv0⟩ := open_graph (hval 0 35 v0 rfl rfl) h0
  clear hA0 hval0
  have hT := tabs_of hL
  simp only [List.append_nil] at hW'
  have hlt0 : ∀ x ∈ p0, x.block < W.heap.size := fun x hx => hW'.lt x (by simp [hx])
  refine (walk ao0 n0 c0 b0 off0 L0 out0 W hv0 hT).mono fun e W' ⟨he, hg⟩ => ?_
  subst he
  have t0 := Below.trod laidOut (by kernel_rfl) (of_decide_eq_true (by kernel_rfl)) h0 hg (fun x hx => hlt0 x hx)
  exact ⟨_, rfl, ⟨_, _, _, _, _, _, hW', (trodAll_cons_mk (shut_bool Tryd.underlying4 _) trodAll_mk0), (trodAll_cons_mk t0 trodAll_mk0), rfl, hg.frame _, fun h => by cases h⟩⟩

theorem over : Rows.NodeChecksSaid :=
  OpenClaim.holds_of_wide 5 Tryd.f5 rfl rfl rfl rfl rfl rfl rfl ⟨rfl, rfl, rfl, rfl, rfl⟩ rfl rfl rfl rfl rfl (by kernel_rfl) Tryd.func5 (by kernel_rfl)
    (of_decide_eq_true (by kernel_rfl)) (by unfold Func.isWrapper; first | (rw [if_pos (by decide +kernel)]; kernel_rfl) | (rw [if_neg (by decide +kernel)]; exact ⟨rfl, rfl⟩))
    (fun os started H enc _ => lifted os started H enc)

theorem proved : Rows.NodeChecksCardSaid :=
  Claim7.holds_tied_plain_at .later [] [.data, .data, .data] true (true, "caa8efdcad327d938fdddf48bb1deda03d5f891d1f8a73311d11ec830190d6e0") true
    over (fun _ h => by cases h) (by kernel_rfl) (fun _ h => by cases h) nodeChecks_row_tie rfl ⟨rfl, rfl⟩ (by kernel_rfl) rfl
    (fun f fn hf hfn => by
      obtain rfl : f = 5 := Option.some.inj ((show Tryd.prog.funcNamed "gouache/gouachelaw12.NodeChecks" = some 5 by kernel_rfl).symm.trans hf) |>.symm
      obtain rfl : fn = Tryd.f5 := (Option.some.inj (Tryd.func5.symm.trans hfn)).symm
      exact ⟨by kernel_rfl, fun j t ht => by
        rw [Tryd.params5] at ht
        have hm : t ∈ [35] := by simpa using Array.mem_of_getElem? ht
        have hall : ([35].all fun u => !Tryd.prog.wantsStandIn u) = true := by kernel_rfl
        exact (show Tryd.prog.wantsStandIn t = false by simpa using List.all_eq_true.1 hall t hm)⟩)
    (by kernel_rfl)
#print axioms proved
end Go.Proofs.YtleclkjinkbebaaDoor.nodeChecks
