/- For every right node, and every rectangle: what it needs of its inputs is what the document says. -/
import Derived.Test.YtamojciiacmjaaaDoorRows
import Derived.Test.YtamojciiacmjaaaDoorCards
import Derived.Test.YtamojciiacmjaaaDoorTie
import Derived.WalkKit
import Derived.ProofKit
import Derived.OpenShut
import Derived.LaidMore
import Derived.SevenTiedAt
import Derived.Stop.Joined
import Derived.Test.YtamojciiacmjaaaDoorNdOpen
namespace Go.Proofs.YtamojciiacmjaaaDoor.needNodes
open Go Go.ChangeShapes Go.WideShapes Go.ChangeAt Go.RowKit Num
open Rg.Num (R empB orN nil moveR grow meet join mvd mx mn cutR Ok Pr boxQ hasB rightB)
set_option linter.unusedVariables false
set_option linter.unusedSimpArgs false
attribute [local go_sem ↓] Rg.eqR
attribute [local go_sem] Rg.eq4_same

/-- the node's box and the rectangle's -/
structure Ln (w wr : World) (op : Int) (ai : Option Addr) (ni ci : Nat) (ap : Option Addr) (np cp : Nat) (p q r s : Int) : Prop where
  n : Nb wr w.heap.size op ai ni ci ap np cp
  s : Rg.Rc.Has4 wr (w.heap.size + 1) (.int .i64 p) (.int .i64 q) (.int .i64 r) (.int .i64 s)
  low : Below w.heap.size w wr
section
variable {w wr w' : World} {op : Int} {ai : Option Addr} {ni ci : Nat} {ap : Option Addr} {np cp : Nat} {p q r s : Int}
theorem Ln.to (h : Ln w wr op ai ni ci ap np cp p q r s) (hb : Below wr.heap.size wr w') : Ln w w' op ai ni ci ap np cp p q r s := ⟨h.n.below hb, h.s.below hb, via (w := w) h.low hb⟩
theorem ln_new (w : World) (op : Int) (ai : Option Addr) (ni ci : Nat) (ap : Option Addr) (np cp : Nat) (p q r s : Int) : Ln w ((w.alloc (.cells #[.int .i64 op, .slice ai ni ci, .slice ap np cp] 24)).alloc (.cells #[.int .i64 p, .int .i64 q, .int .i64 r, .int .i64 s] 26)) op ai ni ci ap np cp p q r s :=
  ⟨(nb_new w op ai ni ci ap np cp 24).below (al _), Rg.Rc.Has4.new (by simp) _ _ _ _ _, ((Below.refl _ _).alloc (Nat.le_refl _) _).alloc (by simp) _⟩
abbrev Sn (w : World) (op : Int) (ai : Option Addr) (ni ci : Nat) (ap : Option Addr) (np cp : Nat) (p q r s : Int) (w' : World) : Prop := (w'.cell? ⟨w.heap.size, 0, none⟩ = some (.int .i64 op) ∧ w'.cell? ⟨w.heap.size, 1, none⟩ = some (.slice ai ni ci) ∧ w'.cell? ⟨w.heap.size, 2, none⟩ = some (.slice ap np cp) ∧ w'.cell? ⟨w.heap.size + 1, 0, none⟩ = some (.int .i64 p) ∧ w'.cell? ⟨w.heap.size + 1, 1, none⟩ = some (.int .i64 q) ∧ w'.cell? ⟨w.heap.size + 1, 2, none⟩ = some (.int .i64 r) ∧ w'.cell? ⟨w.heap.size + 1, 3, none⟩ = some (.int .i64 s)) ∧ Below w.heap.size w w'
theorem sn_below {w2 : World} (h : Sn w op ai ni ci ap np cp p q r s w') (hb : Below w'.heap.size w' w2) : Sn w op ai ni ci ap np cp p q r s w2 := by
  obtain ⟨⟨h0, h1, h2, h3, h4, h5, h6⟩, hB⟩ := h
  exact ⟨⟨cell_below hb h0, cell_below hb h1, cell_below hb h2, cell_below hb h3, cell_below hb h4, cell_below hb h5, cell_below hb h6⟩, via hB hb⟩
theorem sn_drew (h : Sn w op ai ni ci ap np cp p q r s w') : Sn w op ai ni ci ap np cp p q r s w'.drew := sn_below h (Below.refl _ _).drew
end

set_option maxRecDepth 100000 in
set_option maxHeartbeats 4000000 in
theorem walk (op : Int) (ai : Option Addr) (ni ci bi oi : Nat) (l : List Int) (ap : Option Addr) (np cp bp ob : Nat) (pl : List Int) (p q r s : Int) (w : World) (hi : Vi w ai ni ci bi oi l) (hp : Vi w ap np cp bp ob pl) (hT : Tabs w) :
    Calls Tryd.prog 3 #[.agg #[.int .i64 op, .slice ai ni ci, .slice ap np cp], .agg #[.int .i64 p, .int .i64 q, .int .i64 r, .int .i64 s]] w fun e w' => e = .returned (.bool true) ∧ Below w.heap.size w w' := by
  have hl := vi_len hi
  have HS := hid (ln_new w op ai ni ci ap np cp p q r s)
  have HI := hid hi
  have HP := hid hp
  have HT := hid hT
  have HLl := hid hl
  clear hi hp hT hl
  by_cases h20 : ni ≤ 20
  case neg =>
    have h20z : (20 : Int) < (ni : Int) := by omega
    go_enter Tryd.func3, Tryd.ntmps3
    go_wp2_with (first
      | (go_at_call 8; with_reducible refine Calls.mono (awake_any _) ?_; rintro e wa ⟨rfl, hb⟩; replace HS := hid (HS.out.to hb); (try clear n0 n1 n2 a0 a1 a2 a3 af); obtain ⟨n0, n1, n2⟩ := id HS.out.n; obtain ⟨a0, a1, a2, a3, af⟩ := id HS.out.s; clear hb))
    go_ret
    exact ⟨rfl, HS.out.low⟩
  have h20z : ¬ ((20 : Int) < (ni : Int)) := by omega
  by_cases h40 : np ≤ 40
  case neg =>
    have h40z : (40 : Int) < (np : Int) := by omega
    go_enter Tryd.func3, Tryd.ntmps3
    go_wp2_with (first
      | (go_at_call 8; with_reducible refine Calls.mono (awake_any _) ?_; rintro e wa ⟨rfl, hb⟩; replace HS := hid (HS.out.to hb); (try clear n0 n1 n2 a0 a1 a2 a3 af); obtain ⟨n0, n1, n2⟩ := id HS.out.n; obtain ⟨a0, a1, a2, a3, af⟩ := id HS.out.s; clear hb))
    go_ret
    exact ⟨rfl, HS.out.low⟩
  have h40z : ¬ ((40 : Int) < (np : Int)) := by omega
  by_cases h1 : oneI op l pl 9 = 0
  case neg =>
    obtain ⟨k, hk⟩ : ∃ k, oneI op l pl 9 = k := ⟨_, rfl⟩
    have HN := hid hk
    rw [hk] at h1
    have hk0 : decide (k = 0) = false := decide_eq_false h1
    have hk1 : (k == 0) = false := beq_false_of_ne h1
    have hk2 : (k != 0) = true := by simp [bne, hk1]
    clear hk
    go_enter Tryd.func3, Tryd.ntmps3
    go_wp2_with (first
      | (go_at_call 8; with_reducible refine Calls.mono (awake_any _) ?_; rintro e wa ⟨rfl, hb⟩; replace HS := hid (HS.out.to hb); (try clear n0 n1 n2 a0 a1 a2 a3 af); obtain ⟨n0, n1, n2⟩ := id HS.out.n; obtain ⟨a0, a1, a2, a3, af⟩ := id HS.out.s; clear hb)
      | (go_at_call 9; with_reducible refine Calls.mono (refOne_any op ai ni ci bi oi l ap np cp bp ob pl 9 _ (HT.out.below HS.out.low) (HI.out.below HS.out.low) (HP.out.below HS.out.low) (by decide) (by decide)) ?_; rintro e wa ⟨rfl, hb⟩; rw [HN.out]; replace HS := hid (HS.out.to hb); (try clear n0 n1 n2 a0 a1 a2 a3 af); obtain ⟨n0, n1, n2⟩ := id HS.out.n; obtain ⟨a0, a1, a2, a3, af⟩ := id HS.out.s; clear hb))
    go_ret
    exact ⟨rfl, HS.out.low⟩
  have HN := hid h1
  have HRn := hid (rn_one h1).1
  clear h1
  rcases ho : rightB ⟨p, q, r, s⟩ with _ | _
  · have HO := hid ho
    clear ho
    go_enter Tryd.func3, Tryd.ntmps3
    go_wp2_with (first
      | (go_at_call 8; with_reducible refine Calls.mono (awake_any _) ?_; rintro e wa ⟨rfl, hb⟩; replace HS := hid (HS.out.to hb); (try clear n0 n1 n2 a0 a1 a2 a3 af); obtain ⟨n0, n1, n2⟩ := id HS.out.n; obtain ⟨a0, a1, a2, a3, af⟩ := id HS.out.s; clear hb)
      | (go_at_call 9; with_reducible refine Calls.mono (refOne_any op ai ni ci bi oi l ap np cp bp ob pl 9 _ (HT.out.below HS.out.low) (HI.out.below HS.out.low) (HP.out.below HS.out.low) (by decide) (by decide)) ?_; rintro e wa ⟨rfl, hb⟩; rw [HN.out]; replace HS := hid (HS.out.to hb); (try clear n0 n1 n2 a0 a1 a2 a3 af); obtain ⟨n0, n1, n2⟩ := id HS.out.n; obtain ⟨a0, a1, a2, a3, af⟩ := id HS.out.s; clear hb)
      | (go_at_call 10; with_reducible refine Calls.mono (Rg.Rc.right_any p q r s _) ?_; rintro e wa ⟨rfl, hb⟩; rw [HO.out]; replace HS := hid (HS.out.to hb); (try clear n0 n1 n2 a0 a1 a2 a3 af); obtain ⟨n0, n1, n2⟩ := id HS.out.n; obtain ⟨a0, a1, a2, a3, af⟩ := id HS.out.s; clear hb))
    go_ret
    exact ⟨rfl, HS.out.low⟩
  have HO := hid ho
  have HK := hid (ok_right ho)
  have hE := rn_e HRn.out ⟨p, q, r, s⟩
  rw [HLl.out] at hE
  have HE := hid hE
  clear ho hE
  go_enter Tryd.func3, Tryd.ntmps3
  go_wp2_with (first
    | (go_at_call 8; with_reducible refine Calls.mono (awake_any _) ?_; rintro e wa ⟨rfl, hb⟩; replace HS := hid (HS.out.to hb); (try clear n0 n1 n2 a0 a1 a2 a3 af); obtain ⟨n0, n1, n2⟩ := id HS.out.n; obtain ⟨a0, a1, a2, a3, af⟩ := id HS.out.s; clear hb)
    | (go_at_call 9; with_reducible refine Calls.mono (refOne_any op ai ni ci bi oi l ap np cp bp ob pl 9 _ (HT.out.below HS.out.low) (HI.out.below HS.out.low) (HP.out.below HS.out.low) (by decide) (by decide)) ?_; rintro e wa ⟨rfl, hb⟩; rw [HN.out]; replace HS := hid (HS.out.to hb); (try clear n0 n1 n2 a0 a1 a2 a3 af); obtain ⟨n0, n1, n2⟩ := id HS.out.n; obtain ⟨a0, a1, a2, a3, af⟩ := id HS.out.s; clear hb)
    | (go_at_call 10; with_reducible refine Calls.mono (Rg.Rc.right_any p q r s _) ?_; rintro e wa ⟨rfl, hb⟩; rw [HO.out]; replace HS := hid (HS.out.to hb); (try clear n0 n1 n2 a0 a1 a2 a3 af); obtain ⟨n0, n1, n2⟩ := id HS.out.n; obtain ⟨a0, a1, a2, a3, af⟩ := id HS.out.s; clear hb))
  have hS : Sn w op ai ni ci ap np cp p q r s wa := ⟨⟨n0, n1, n2, a0, a1, a2, a3⟩, HS.out.low⟩
  have HB := hid (HS.out.low.drew)
  go_region_held3 (fun w' => (w'.cell? ⟨w.heap.size, 0, none⟩ = some (.int .i64 op) ∧ w'.cell? ⟨w.heap.size, 1, none⟩ = some (.slice ai ni ci) ∧ w'.cell? ⟨w.heap.size, 2, none⟩ = some (.slice ap np cp) ∧ w'.cell? ⟨w.heap.size + 1, 0, none⟩ = some (.int .i64 p) ∧ w'.cell? ⟨w.heap.size + 1, 1, none⟩ = some (.int .i64 q) ∧ w'.cell? ⟨w.heap.size + 1, 2, none⟩ = some (.int .i64 r) ∧ w'.cell? ⟨w.heap.size + 1, 3, none⟩ = some (.int .i64 s)) ∧ Below w.heap.size w w') (repeat (first | with_reducible assumption | with_reducible refine sn_drew ?_ | with_reducible refine sn_below ?_ ‹_›)) ((first
    | (go_at_call 12; with_reducible refine Calls.mono (of_any op HRn.out.k ai ni ci bi oi l ap np cp bp ob pl p q r s _ (HI.out.below HB.out) (by omega) (HP.out.below HB.out) HRn.out.pr HK.out) ?_; rintro e wx ⟨hr1, hb1⟩; rw [HE.out] at hr1; obtain ⟨xo, xn, xc, xb, xoff, rfl, hX⟩ := Rg.retO hr1; have HX := hid hX; replace HB := hid (via HB.out hb1); clear hr1 hX)
    | (go_at_call 13; with_reducible refine Calls.mono (refOf_any op ai ni ci bi oi l ap np cp bp ob pl p q r s _ (HI.out.below HB.out) (by omega) (HP.out.below HB.out) HRn.out HK.out) ?_; rintro e wy ⟨hr2, hb2⟩; obtain ⟨yo, yn, yc, yb, yoff, rfl, hY⟩ := Rg.retO hr2; have hxy : xn = yn := (Rg.vw_len HX.out.v).symm.trans (Rg.vw_len hY.v); subst hxy; have HY := hid hY; replace HX := hid (HX.out.below hb2); replace HB := hid (via HB.out hb2); clear hr2 hY)
    | (go_at_call 11; with_reducible refine Calls.mono (same_yes xo xn xc xb xoff yo yc yb yoff _ _ HX.out.v HY.out.v) ?_; rintro e wz ⟨rfl, hb3⟩; replace HB := hid (via HB.out hb3))))
  go_wp2
  go_ret
  exact ⟨rfl, HB.out⟩

theorem own : ownKnob Tryd.prog.godebug = none := by kernel_rfl
theorem door_met (os : Os) (args : Array Value) : laidMetH Tryd.prog laid3 ((World.doorLaid Tryd.prog 24 os).forCall (fun _ _ => 0) ⟨#[], args, []⟩).memory :=
  laidMetH_of_parts3 (fuel := 8) (laidMet_of_run' 8 (by kernel_rfl) (by kernel_rfl)) (by kernel_rfl) (by kernel_rfl)

set_option maxHeartbeats 400000 in
set_option maxRecDepth 100000 in
theorem lifted (os : Os) (started : os.Started) (H : Type) (enc : TypeId × Value → H) :
    ReturnsInHanded {} Tryd.checked os 3 .any (fun w args => (Rows.needNodesSpec.pre enc Tryd.prog Tryd.f3 [] false w args ∧ laidMetH Tryd.prog laid3 w) ∧ sizedMet enc Tryd.prog Tryd.f3 (OpenSpec.ofChange Rows.needNodesSpec) false w args)
      (Rows.needNodesSpec.post enc Tryd.prog Tryd.f3 false true false false) := by
  refine returnsInHanded_of_change_and (C := Tryd.checked) (X := fun w _ => laidMetH Tryd.prog laid3 w) (fun _ _ _ hh h => h.of_heap hh) own started (by kernel_rfl) Tryd.func3
    (ChangeSpec.witness_shaped (enc := enc) (C := Tryd.checked) (os := os) (X := fun w _ => laidMetH Tryd.prog laid3 w) false (World.doorLaid Tryd.prog 24 os) #[.agg #[.int .i64 0, .slice none 0 0, .slice none 0 0], .agg #[.int .i64 0, .int .i64 0, .int .i64 0, .int .i64 0]] 8 rfl (World.shaped_of_RefB (by kernel_rfl) (by kernel_rfl)) (by kernel_rfl) (by kernel_rfl) (by kernel_rfl) (door_met os _)) ?_
  intro W base args ds gs before hval0 hW _ _ hL _
  have hval : ∀ (j : Nat) t v, Tryd.f3.params[j]? = some t → args[j]? = some v → Value.okWide Tryd.prog W .any base t v := hval0
  have hW' := hW
  obtain ⟨p, q, hA0, hV, rfl, hfz, hnd⟩ := hW
  have hA : DataW.TrodAll enc Tryd.prog W 0 (fun _ => true) true Tryd.f3.params.toList args.toList ds p := hA0
  rw [Tryd.params3] at hA hval
  obtain ⟨v0, vs0, d0, ds0, p0, q0, hargs, rfl, rfl, h0, r0⟩ := trodAll_cons hA
  obtain ⟨v1, vs1, d1, ds1, p1, q1, rfl, rfl, rfl, h1, r1⟩ := trodAll_cons r0
  obtain ⟨rfl, rfl, rfl⟩ := trodAll_nil r1
  obtain rfl : args = #[v0, v1] := by cases args; simp_all
  obtain ⟨rfl, rfl⟩ := trodVars_none hV
  obtain ⟨u0, rfl, hi0, hp0⟩ := open_nodeV (hval 0 24 v0 rfl rfl) h0
  obtain ⟨x1, y1, z1, t1, rfl⟩ := open_rect (hval 1 26 v1 rfl rfl) h1
  clear hA0 hval0
  have hT := tabs_of hL
  simp only [List.append_nil] at hW'
  have hlt0 : ∀ x ∈ p0, x.block < W.heap.size := fun x hx => hW'.lt x (by simp [hx])
  have hlt1 : ∀ x ∈ p1, x.block < W.heap.size := fun x hx => hW'.lt x (by simp [hx])
  refine (walk u0.op u0.ai u0.ni u0.ci u0.bi u0.oi u0.l u0.ap u0.np u0.cp u0.bp u0.ob u0.p x1 y1 z1 t1 W hi0 hp0 hT).mono fun e W' ⟨he, hg⟩ => ?_
  subst he
  have tr0 := Below.trod laidOut (by kernel_rfl) (of_decide_eq_true (by kernel_rfl)) h0 hg (fun x hx => hlt0 x hx)
  have tr1 := Below.trod laidOut (by kernel_rfl) (of_decide_eq_true (by kernel_rfl)) h1 hg (fun x hx => hlt1 x hx)
  exact ⟨_, rfl, ⟨_, _, _, _, _, _, hW', (trodAll_cons_mk (shut_bool Tryd.underlying4 _) trodAll_mk0), (trodAll_cons_mk tr0 (trodAll_cons_mk tr1 trodAll_mk0)), rfl, hg.frame _, fun h => by cases h⟩⟩

theorem over : Rows.NeedNodesSaid :=
  OpenClaim.holds_of_wide 3 Tryd.f3 rfl rfl rfl rfl rfl rfl rfl ⟨rfl, rfl, rfl, rfl, rfl⟩ rfl rfl rfl rfl rfl (by kernel_rfl) Tryd.func3 (by kernel_rfl)
    (of_decide_eq_true (by kernel_rfl)) (by unfold Func.isWrapper; first | (rw [if_pos (by decide +kernel)]; kernel_rfl) | (rw [if_neg (by decide +kernel)]; exact ⟨rfl, rfl⟩))
    (fun os started H enc _ => lifted os started H enc)

theorem proved : Rows.NeedNodesCardSaid :=
  Claim7.holds_tied_plain_at .later [] [.data, .data, .data] true (true, "71b3e36144abff0af242cc6e68620bceea4b925d8c9046e5d34f8d7acc8bfaac") true
    over (fun _ h => by cases h) (by kernel_rfl) (fun _ h => by cases h) needNodes_row_tie rfl ⟨rfl, rfl⟩ (by kernel_rfl) rfl
    (fun f fn hf hfn => by
      obtain rfl : f = 3 := Option.some.inj ((show Tryd.prog.funcNamed "gouache/gouachelaw14.NeedNodes" = some 3 by kernel_rfl).symm.trans hf) |>.symm
      obtain rfl : fn = Tryd.f3 := (Option.some.inj (Tryd.func3.symm.trans hfn)).symm
      exact ⟨by kernel_rfl, fun j t ht => by
        rw [Tryd.params3] at ht
        have hm : t ∈ [24, 26] := by simpa using Array.mem_of_getElem? ht
        have hall : ([24, 26].all fun u => !Tryd.prog.wantsStandIn u) = true := by kernel_rfl
        exact (show Tryd.prog.wantsStandIn t = false by simpa using List.all_eq_true.1 hall t hm)⟩)
    (by kernel_rfl)
#print axioms proved
end Go.Proofs.YtamojciiacmjaaaDoor.needNodes
