/- For every number: what the kind asks for, by the code and by the document; the document's tables as the program's own text lays them (tied). -/
import Derived.Test.YtleclkjinkbebaaDoorRows
import Derived.Test.YtleclkjinkbebaaDoorCards
import Derived.Test.YtleclkjinkbebaaDoorTie
import Derived.WalkKit
import Derived.ProofKit
import Derived.OpenShut
import Derived.LaidMore
import Derived.SevenTiedAt
import Derived.Stop.Joined
import Derived.Test.YtleclkjinkbebaaDoorOpen
import Derived.Test.YtleclkjinkbebaaDoorTabs
namespace Go.Proofs.YtleclkjinkbebaaDoor.nodeArities
open Go Go.ChangeShapes Go.WideShapes Go.ChangeAt Go.RowKit Num
set_option linter.unusedVariables false
set_option linter.unusedSimpArgs false

theorem arI_parts (op : Int) : ∃ (a d q : Int) (k : Bool), arI op = .tuple #[.int .i64 a, .int .i64 d, .int .i64 q, .bool k] := ⟨_, _, _, _, rfl⟩
theorem arity_c {op : Int} {v : Value} (h : arI op = v) (w : World) : Calls Tryd.prog 6 #[.int .i64 op] w fun e w' => e = .returned v ∧ Below w.heap.size w w' := by
  rw [← h]; exact arity_any op w
theorem refArity_c {op : Int} {v : Value} (h : arI op = v) {w : World} (hT : Tabs w) : Calls Tryd.prog 7 #[.int .i64 op] w fun e w' => e = .returned v ∧ Below w.heap.size w w' := by
  rw [← h]; exact refArity_any op w hT
set_option maxRecDepth 100000 in
set_option maxHeartbeats 1000000 in
theorem walk (op : Int) (w : World) (hT : Tabs w) :
    Calls Tryd.prog 3 #[.int .i64 op] w fun e w' => e = .returned (.bool true) ∧ Below w.heap.size w w' := by
  obtain ⟨a, d, q, k, hA⟩ := arI_parts op
  have HA := hid hA
  have HT := hid hT
  clear hA hT
  go_enter Tryd.func3, Tryd.ntmps3
  go_wp2_with (first
    | (go_at_call 6; with_reducible refine Calls.mono (arity_c HA.out _) ?_; rintro e w1 ⟨rfl, hb⟩; have H1 := hid hb; clear hb)
    | (go_at_call 7; with_reducible refine Calls.mono (refArity_c HA.out (HT.out.below H1.out)) ?_; rintro e w2 ⟨rfl, hb⟩; have H2 := hid (via (w := w) H1.out hb); clear hb)
    | (go_at_call 8; with_reducible refine Calls.mono (awake_any _) ?_; rintro e w3 ⟨rfl, hb⟩; have H3 := hid (via (w := w) H2.out hb); clear hb))
  go_ret
  exact ⟨ret_bool (by simp), H3.out⟩

theorem own : ownKnob Tryd.prog.godebug = none := by kernel_rfl
theorem door_met (os : Os) (args : Array Value) : laidMetH Tryd.prog laid3 ((World.doorLaid Tryd.prog 24 os).forCall (fun _ _ => 0) ⟨#[], args, []⟩).memory :=
  laidMetH_of_parts3 (fuel := 8) (laidMet_of_run' 8 (by kernel_rfl) (by kernel_rfl)) (by kernel_rfl) (by kernel_rfl)

set_option maxHeartbeats 400000 in
set_option maxRecDepth 100000 in
theorem lifted (os : Os) (started : os.Started) (H : Type) (enc : TypeId × Value → H) :
    ReturnsInHanded {} Tryd.checked os 3 .any (fun w args => (Rows.nodeAritiesSpec.pre enc Tryd.prog Tryd.f3 [] false w args ∧ laidMetH Tryd.prog laid3 w) ∧ sizedMet enc Tryd.prog Tryd.f3 (OpenSpec.ofChange Rows.nodeAritiesSpec) false w args)
      (Rows.nodeAritiesSpec.post enc Tryd.prog Tryd.f3 false true false false) := by
  refine returnsInHanded_of_change_and (C := Tryd.checked) (X := fun w _ => laidMetH Tryd.prog laid3 w) (fun _ _ _ hh h => h.of_heap hh) own started (by kernel_rfl) Tryd.func3
    (ChangeSpec.witness_shaped (enc := enc) (C := Tryd.checked) (os := os) (X := fun w _ => laidMetH Tryd.prog laid3 w) false (World.doorLaid Tryd.prog 24 os) #[.int .i64 0] 8 rfl (World.shaped_of_RefB (by kernel_rfl) (by kernel_rfl)) (by kernel_rfl) (by kernel_rfl) (by kernel_rfl) (door_met os _)) ?_
  intro W base args ds gs before hval0 hW _ _ hL _
  have hval : ∀ (j : Nat) t v, Tryd.f3.params[j]? = some t → args[j]? = some v → Value.okWide Tryd.prog W .any base t v := hval0
  have hW' := hW
  obtain ⟨p, q, hA0, hV, rfl, hfz, hnd⟩ := hW
  have hA : DataW.TrodAll enc Tryd.prog W 0 (fun _ => true) true Tryd.f3.params.toList args.toList ds p := hA0
  rw [Tryd.params3] at hA hval
  obtain ⟨v0, vs0, d0, ds0, p0, q0, hargs, rfl, rfl, h0, r0⟩ := trodAll_cons hA
  obtain ⟨rfl, rfl, rfl⟩ := trodAll_nil r0
  obtain rfl : args = #[v0] := by cases args; simp_all
  obtain ⟨rfl, rfl⟩ := trodVars_none hV
  obtain ⟨k0, rfl, rfl, rfl, u0⟩ := open_int Tryd.underlying3 (hval 0 3 v0 rfl rfl) h0
  clear hA0 hval0
  have hT := tabs_of hL
  simp only [List.append_nil] at hW'
  refine (walk k0 W hT).mono fun e W' ⟨he, hg⟩ => ?_
  subst he
  exact ⟨_, rfl, ⟨_, _, _, _, _, _, hW', (trodAll_cons_mk (shut_bool Tryd.underlying4 _) trodAll_mk0), (trodAll_cons_mk (shut_int Tryd.underlying3 u0) trodAll_mk0), rfl, hg.frame _, fun h => by cases h⟩⟩

theorem over : Rows.NodeAritiesSaid :=
  OpenClaim.holds_of_wide 3 Tryd.f3 rfl rfl rfl rfl rfl rfl rfl ⟨rfl, rfl, rfl, rfl, rfl⟩ rfl rfl rfl rfl rfl (by kernel_rfl) Tryd.func3 (by kernel_rfl)
    (of_decide_eq_true (by kernel_rfl)) (by unfold Func.isWrapper; first | (rw [if_pos (by decide +kernel)]; kernel_rfl) | (rw [if_neg (by decide +kernel)]; exact ⟨rfl, rfl⟩))
    (fun os started H enc _ => lifted os started H enc)

theorem proved : Rows.NodeAritiesCardSaid :=
  Claim7.holds_tied_plain_at .later [] [.data, .data, .data] true (true, "caa8efdcad327d938fdddf48bb1deda03d5f891d1f8a73311d11ec830190d6e0") true
    over (fun _ h => by cases h) (by kernel_rfl) (fun _ h => by cases h) nodeArities_row_tie rfl ⟨rfl, rfl⟩ (by kernel_rfl) rfl
    (fun f fn hf hfn => by
      obtain rfl : f = 3 := Option.some.inj ((show Tryd.prog.funcNamed "gouache/gouachelaw12.NodeArities" = some 3 by kernel_rfl).symm.trans hf) |>.symm
      obtain rfl : fn = Tryd.f3 := (Option.some.inj (Tryd.func3.symm.trans hfn)).symm
      exact ⟨by kernel_rfl, fun j t ht => by
        rw [Tryd.params3] at ht
        have hm : t ∈ [3] := by simpa using Array.mem_of_getElem? ht
        have hall : ([3].all fun u => !Tryd.prog.wantsStandIn u) = true := by kernel_rfl
        exact (show Tryd.prog.wantsStandIn t = false by simpa using List.all_eq_true.1 hall t hm)⟩)
    (by kernel_rfl)
#print axioms proved
end Go.Proofs.YtleclkjinkbebaaDoor.nodeArities
