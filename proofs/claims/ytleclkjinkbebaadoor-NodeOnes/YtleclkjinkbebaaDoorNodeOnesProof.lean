/- For every node, among however many: whether it may be, or why not, by the code and by the document; the document's tables as the program's own text lays them (tied). -/
import Derived.Test.YtleclkjinkbebaaDoorRows
import Derived.Test.YtleclkjinkbebaaDoorCards
import Derived.Test.YtleclkjinkbebaaDoorTie
import Derived.WalkKit
import Derived.ProofKit
import Derived.OpenShut
import Derived.LaidMore
import Derived.SevenTiedAt
import Derived.Stop.Joined
import Derived.Test.YtleclkjinkbebaaDoorOpen
import Derived.Test.YtleclkjinkbebaaDoorRefs5
namespace Go.Proofs.YtleclkjinkbebaaDoor.nodeOnes
open Go Go.ChangeShapes Go.WideShapes Go.ChangeAt Go.RowKit Num
set_option linter.unusedVariables false
set_option linter.unusedSimpArgs false

/-- the node's three cells stand -/
abbrev S3 (w1 : World) (k : Nat) (v0 v1 v2 : Value) (w' : World) : Prop := (w'.cell? ⟨k, 0, none⟩ = some v0 ∧ w'.cell? ⟨k, 1, none⟩ = some v1 ∧ w'.cell? ⟨k, 2, none⟩ = some v2) ∧ Below w1.heap.size w1 w'
section
variable {w1 : World} {k : Nat} {v0 v1 v2 : Value} {w' : World}
theorem s3_drew (h : S3 w1 k v0 v1 v2 w') : S3 w1 k v0 v1 v2 w'.drew := ⟨h.1, h.2.drew⟩
theorem s3_below {w2 : World} (h : S3 w1 k v0 v1 v2 w') (hb : Below w'.heap.size w' w2) : S3 w1 k v0 v1 v2 w2 := ⟨⟨cell_below hb h.1.1, cell_below hb h.1.2.1, cell_below hb h.1.2.2⟩, via (w := w1) h.2 hb⟩
variable {op count x : Int} {ai : Option Addr} {ni ci bi oi : Nat} {l : List Int} {ap : Option Addr} {np cp bp ob : Nat} {p : List Int}
theorem one_s (hi : Vi w1 ai ni ci bi oi l) (hp : Vi w1 ap np cp bp ob p) (hx : oneI op l p count = x) (hs : S3 w1 k v0 v1 v2 w') : Calls Tryd.prog 9 #[.agg #[.int .i64 op, .slice ai ni ci, .slice ap np cp], .int .i64 count] w' fun e w2 => e = .returned (.int .i64 x) ∧ Below w'.heap.size w' w2 := by
  subst hx; exact one_any op ai ni ci bi oi l ap np cp bp ob p count w' (hi.below hs.2) (hp.below hs.2)
theorem refOne_t (hT : Tabs w1) (hi : Vi w1 ai ni ci bi oi l) (hp : Vi w1 ap np cp bp ob p) (h0 : 0 ≤ count) (h9 : count ≤ 1000) (hx : oneI op l p count = x) (hs : S3 w1 k v0 v1 v2 w') : Calls Tryd.prog 10 #[.agg #[.int .i64 op, .slice ai ni ci, .slice ap np cp], .int .i64 count] w' fun e w2 => e = .returned (.int .i64 x) ∧ Below w'.heap.size w' w2 := by
  subst hx; exact refOne_any op ai ni ci bi oi l ap np cp bp ob p count w' (hT.below hs.2) (hi.below hs.2) (hp.below hs.2) h0 h9
end
set_option maxRecDepth 100000 in
set_option maxHeartbeats 2000000 in
theorem walk (v : Nv) (count : Int) (w : World) (hi : Vi w v.ai v.ni v.ci v.bi v.oi v.l) (hp : Vi w v.ap v.np v.cp v.bp v.ob v.p) (hT : Tabs w) :
    Calls Tryd.prog 4 #[.agg #[.int .i64 v.op, .slice v.ai v.ni v.ci, .slice v.ap v.np v.cp], .int .i64 count] w fun e w' => e = .returned (.bool true) ∧ Below w.heap.size w w' := by
  have hb0 : Below w.heap.size w (w.alloc (.cells #[.int .i64 v.op, .slice v.ai v.ni v.ci, .slice v.ap v.np v.cp] 28)) := (Below.refl _ _).alloc (Nat.le_refl _) _
  have hn1 := nb_new w v.op v.ai v.ni v.ci v.ap v.np v.cp 28
  have H0 := hid (And.intro (hi.below hb0) (And.intro (hp.below hb0) (And.intro (hT.below hb0) (And.intro hb0 hn1))))
  have hni := vz_small hi
  have hnp := vz_small hp
  obtain ⟨x, hx⟩ : ∃ x, x = oneI v.op v.l v.p count := ⟨_, rfl⟩
  have HX := hid hx.symm
  clear hi hp hT hb0 hn1 hx
  by_cases h1 : 50 < v.ni
  · have h1z : (50 : Int) < (v.ni : Int) := by omega
    go_enter Tryd.func4, Tryd.ntmps4
    go_wp2_with (go_at_call 8; with_reducible refine Calls.mono (awake_any _) ?_; rintro e w1 ⟨rfl, hb⟩; have H1 := hid (via (w := w) H0.out.2.2.2.1 hb); clear hb)
    go_ret
    exact ⟨rfl, H1.out⟩
  have h1z : ¬ (50 : Int) < (v.ni : Int) := by omega
  by_cases h2 : 50 < v.np
  · have h2z : (50 : Int) < (v.np : Int) := by omega
    go_enter Tryd.func4, Tryd.ntmps4
    go_wp2_with (go_at_call 8; with_reducible refine Calls.mono (awake_any _) ?_; rintro e w1 ⟨rfl, hb⟩; have H1 := hid (via (w := w) H0.out.2.2.2.1 hb); clear hb)
    go_ret
    exact ⟨rfl, H1.out⟩
  have h2z : ¬ (50 : Int) < (v.np : Int) := by omega
  by_cases h3 : count < 0
  · go_enter Tryd.func4, Tryd.ntmps4
    go_wp2_with (go_at_call 8; with_reducible refine Calls.mono (awake_any _) ?_; rintro e w1 ⟨rfl, hb⟩; have H1 := hid (via (w := w) H0.out.2.2.2.1 hb); clear hb)
    go_ret
    exact ⟨rfl, H1.out⟩
  by_cases h4 : 1000 < count
  · go_enter Tryd.func4, Tryd.ntmps4
    go_wp2_with (go_at_call 8; with_reducible refine Calls.mono (awake_any _) ?_; rintro e w1 ⟨rfl, hb⟩; have H1 := hid (via (w := w) H0.out.2.2.2.1 hb); clear hb)
    go_ret
    exact ⟨rfl, H1.out⟩
  have h5 : 0 ≤ count := by omega
  have h6 : count ≤ 1000 := by omega
  go_enter Tryd.func4, Tryd.ntmps4
  go_wp2
  have hS : S3 (w.alloc (.cells #[.int .i64 v.op, .slice v.ai v.ni v.ci, .slice v.ap v.np v.cp] 28)) w.heap.size (.int .i64 v.op) (.slice v.ai v.ni v.ci) (.slice v.ap v.np v.cp) (w.alloc (.cells #[.int .i64 v.op, .slice v.ai v.ni v.ci, .slice v.ap v.np v.cp] 28)) := ⟨⟨H0.out.2.2.2.2.c0, H0.out.2.2.2.2.c1, H0.out.2.2.2.2.c2⟩, Below.refl _ _⟩
  obtain ⟨wA, hwA⟩ : ∃ wA, wA = (w.alloc (.cells #[.int .i64 v.op, .slice v.ai v.ni v.ci, .slice v.ap v.np v.cp] 28)) := ⟨_, rfl⟩
  rw [← hwA] at H0 hS ⊢
  clear hwA
  go_region_held3 (fun w' => (w'.cell? ⟨w.heap.size, 0, none⟩ = some (.int .i64 v.op) ∧ w'.cell? ⟨w.heap.size, 1, none⟩ = some (.slice v.ai v.ni v.ci) ∧ w'.cell? ⟨w.heap.size, 2, none⟩ = some (.slice v.ap v.np v.cp)) ∧ Below wA.heap.size wA w') (repeat (first | with_reducible assumption | with_reducible refine s3_drew ?_ | with_reducible refine s3_below ?_ ‹_›)) ((first
    | (go_at_call 8; with_reducible refine Calls.mono (awake_any _) ?_; rintro e w3 ⟨rfl, hb⟩)
    | (go_at_call 9; with_reducible refine Calls.mono (one_s H0.out.1 H0.out.2.1 HX.out (by with_reducible assumption)) ?_; rintro e w4 ⟨rfl, hb⟩)
    | (go_at_call 10; with_reducible refine Calls.mono (refOne_t H0.out.2.2.1 H0.out.1 H0.out.2.1 h5 h6 HX.out (by with_reducible assumption)) ?_; rintro e w5 ⟨rfl, hb⟩)))
  rename_i hh
  have HH := hid hh
  clear hh hS
  go_wp2
  go_ret
  exact ⟨ret_bool (by simp), via (w := w) H0.out.2.2.2.1 HH.out.2⟩

theorem own : ownKnob Tryd.prog.godebug = none := by kernel_rfl
theorem door_met (os : Os) (args : Array Value) : laidMetH Tryd.prog laid3 ((World.doorLaid Tryd.prog 24 os).forCall (fun _ _ => 0) ⟨#[], args, []⟩).memory :=
  laidMetH_of_parts3 (fuel := 8) (laidMet_of_run' 8 (by kernel_rfl) (by kernel_rfl)) (by kernel_rfl) (by kernel_rfl)

set_option maxHeartbeats 400000 in
set_option maxRecDepth 100000 in
theorem lifted (os : Os) (started : os.Started) (H : Type) (enc : TypeId × Value → H) :
    ReturnsInHanded {} Tryd.checked os 4 .any (fun w args => (Rows.nodeOnesSpec.pre enc Tryd.prog Tryd.f4 [] false w args ∧ laidMetH Tryd.prog laid3 w) ∧ sizedMet enc Tryd.prog Tryd.f4 (OpenSpec.ofChange Rows.nodeOnesSpec) false w args)
      (Rows.nodeOnesSpec.post enc Tryd.prog Tryd.f4 false true false false) := by
  refine returnsInHanded_of_change_and (C := Tryd.checked) (X := fun w _ => laidMetH Tryd.prog laid3 w) (fun _ _ _ hh h => h.of_heap hh) own started (by kernel_rfl) Tryd.func4
    (ChangeSpec.witness_shaped (enc := enc) (C := Tryd.checked) (os := os) (X := fun w _ => laidMetH Tryd.prog laid3 w) false (World.doorLaid Tryd.prog 24 os) #[.agg #[.int .i64 0, .slice none 0 0, .slice none 0 0], .int .i64 0] 8 rfl (World.shaped_of_RefB (by kernel_rfl) (by kernel_rfl)) (by kernel_rfl) (by kernel_rfl) (by kernel_rfl) (door_met os _)) ?_
  intro W base args ds gs before hval0 hW _ _ hL _
  have hval : ∀ (j : Nat) t v, Tryd.f4.params[j]? = some t → args[j]? = some v → Value.okWide Tryd.prog W .any base t v := hval0
  have hW' := hW
  obtain ⟨p, q, hA0, hV, rfl, hfz, hnd⟩ := hW
  have hA : DataW.TrodAll enc Tryd.prog W 0 (fun _ => true) true Tryd.f4.params.toList args.toList ds p := hA0
  rw [Tryd.params4] at hA hval
  obtain ⟨v0, vs0, d0, ds0, p0, q0, hargs, rfl, rfl, h0, r0⟩ := trodAll_cons hA
  obtain ⟨v1, vs1, d1, ds1, p1, q1, rfl, rfl, rfl, h1, r1⟩ := trodAll_cons r0
  obtain ⟨rfl, rfl, rfl⟩ := trodAll_nil r1
  obtain rfl : args = #[v0, v1] := by cases args; simp_all
  obtain ⟨rfl, rfl⟩ := trodVars_none hV
  obtain ⟨u0, rfl, hi0, hp0⟩ := open_nodeV (hval 0 28 v0 rfl rfl) h0
  obtain ⟨k1, rfl, rfl, rfl, u1⟩ := open_int Tryd.underlying3 (hval 1 3 v1 rfl rfl) h1
  clear hA0 hval0
  have hT := tabs_of hL
  simp only [List.append_nil] at hW'
  have hlt0 : ∀ x ∈ p0, x.block < W.heap.size := fun x hx => hW'.lt x (by simp [hx])
  refine (walk u0 k1 W hi0 hp0 hT).mono fun e W' ⟨he, hg⟩ => ?_
  subst he
  have t0 := Below.trod laidOut (by kernel_rfl) (of_decide_eq_true (by kernel_rfl)) h0 hg (fun x hx => hlt0 x hx)
  exact ⟨_, rfl, ⟨_, _, _, _, _, _, hW', (trodAll_cons_mk (shut_bool Tryd.underlying4 _) trodAll_mk0), (trodAll_cons_mk t0 (trodAll_cons_mk (shut_int Tryd.underlying3 u1) trodAll_mk0)), rfl, hg.frame _, fun h => by cases h⟩⟩

theorem over : Rows.NodeOnesSaid :=
  OpenClaim.holds_of_wide 4 Tryd.f4 rfl rfl rfl rfl rfl rfl rfl ⟨rfl, rfl, rfl, rfl, rfl⟩ rfl rfl rfl rfl rfl (by kernel_rfl) Tryd.func4 (by kernel_rfl)
    (of_decide_eq_true (by kernel_rfl)) (by unfold Func.isWrapper; first | (rw [if_pos (by decide +kernel)]; kernel_rfl) | (rw [if_neg (by decide +kernel)]; exact ⟨rfl, rfl⟩))
    (fun os started H enc _ => lifted os started H enc)

theorem proved : Rows.NodeOnesCardSaid :=
  Claim7.holds_tied_plain_at .later [] [.data, .data, .data] true (true, "caa8efdcad327d938fdddf48bb1deda03d5f891d1f8a73311d11ec830190d6e0") true
    over (fun _ h => by cases h) (by kernel_rfl) (fun _ h => by cases h) nodeOnes_row_tie rfl ⟨rfl, rfl⟩ (by kernel_rfl) rfl
    (fun f fn hf hfn => by
      obtain rfl : f = 4 := Option.some.inj ((show Tryd.prog.funcNamed "gouache/gouachelaw12.NodeOnes" = some 4 by kernel_rfl).symm.trans hf) |>.symm
      obtain rfl : fn = Tryd.f4 := (Option.some.inj (Tryd.func4.symm.trans hfn)).symm
      exact ⟨by kernel_rfl, fun j t ht => by
        rw [Tryd.params4] at ht
        have hm : t ∈ [28, 3] := by simpa using Array.mem_of_getElem? ht
        have hall : ([28, 3].all fun u => !Tryd.prog.wantsStandIn u) = true := by kernel_rfl
        exact (show Tryd.prog.wantsStandIn t = false by simpa using List.all_eq_true.1 hall t hm)⟩)
    (by kernel_rfl)
#print axioms proved
end Go.Proofs.YtleclkjinkbebaaDoor.nodeOnes
