/- For every filter: of one that is taken each node has the inputs and parameters that its kind asks for, inputs that there are, and is taken by itself; no condition. -/
import Derived.Test.YtleclkjinkbebaaRows
import Derived.WalkKit
import Derived.ProofKit
import Derived.OpenShut
import Derived.Test.YtleclkjinkbebaaOpen
import Derived.Test.YtleclkjinkbebaaLawB
namespace Go.Proofs.Ytleclkjinkbebaa.nodeBounds
open Go.ChangeShapes Go.WideShapes Go.ChangeAt Go.RowKit Num
set_option linter.unusedVariables false
set_option linter.unusedSimpArgs false

theorem arity_c {op a b : Int} {pn : Nat} (h : arI op = .tuple #[.int .i64 a, .int .i64 b, .int .i64 (pn : Int), .bool true]) (w : World) : Calls Try.prog 9 #[.int .i64 op] w fun e w' => e = .returned (.tuple #[.int .i64 a, .int .i64 b, .int .i64 (pn : Int), .bool true]) ∧ Below w.heap.size w w' := by
  rw [← h]; exact arity_any op w
theorem one_c {op count : Int} {ai : Option Addr} {ni ci bi oi : Nat} {l : List Int} {ap : Option Addr} {np cp bp ob : Nat} {p : List Int} {w : World} (hi : Vi w ai ni ci bi oi l) (hp : Vi w ap np cp bp ob p) (h : oneI op l p count = 0) :
    Calls Try.prog 10 #[.agg #[.int .i64 op, .slice ai ni ci, .slice ap np cp], .int .i64 count] w fun e w' => e = .returned (.int .i64 0) ∧ Below w.heap.size w w' := by
  rw [← h]; exact one_any op ai ni ci bi oi l ap np cp bp ob p count w hi hp

set_option maxRecDepth 100000 in
set_option maxHeartbeats 8000000 in
theorem walk (ao : Option Addr) (n c b off : Nat) (L : List Nv) (out : Int) (w : World) (h : Vn w ao n c b off L) :
    Calls Try.prog 3 #[.agg #[.slice ao n c, .int .i64 out]] w fun e w' => e = .returned (.bool true) ∧ Below w.heap.size w w' := by
  have hl := vn_len h
  have hs0 := sg_new w ao n c out 24
  have HS := hid hs0
  have HV := hid h
  clear h hs0
  rcases hfew : fewB L 300 with _ | _
  · have HF := hid hfew
    clear hfew
    go_enter Try.func3, Try.ntmps3
    go_wp2_with (first
      | (go_at_call 6; with_reducible refine Calls.mono (awake_any _) ?_; rintro e w1 ⟨rfl, hb⟩; replace HS := hid (sg_below HS.out hb); obtain ⟨⟨x0, x1⟩, -⟩ := id HS.out; clear hb)
      | (go_at_call 7; with_reducible refine Calls.mono (few_any _ _ _ b off L _ 300 _ (HV.out.below HS.out.2) (by decide)) ?_; rintro e w2 ⟨rfl, hb⟩; replace HS := hid (sg_below HS.out hb); rw [HF.out]; clear hb x0 x1))
    go_ret
    exact ⟨rfl, HS.out.2⟩
  obtain ⟨hn, hf, -⟩ := few_of hl hfew (by decide)
  have HF := hid (And.intro hfew (And.intro hf hl))
  clear hfew hf hl
  by_cases hX : checkI L out = 0
  · have HX := hid hX
    have HC := hid (check_ok hX)
    rw [HF.out.2.2] at HC
    clear hX
    go_enter Try.func3, Try.ntmps3
    go_wp2_with (first
      | (go_at_call 6; with_reducible refine Calls.mono (awake_any _) ?_; rintro e w1 ⟨rfl, hb⟩; replace HS := hid (sg_below HS.out hb); obtain ⟨⟨x0, x1⟩, -⟩ := id HS.out; clear hb)
      | (go_at_call 7; with_reducible refine Calls.mono (few_any _ _ _ b off L _ 300 _ (HV.out.below HS.out.2) (by decide)) ?_; rintro e w2 ⟨rfl, hb⟩; replace HS := hid (sg_below HS.out hb); rw [HF.out.1]; clear x0 x1; obtain ⟨⟨x0, x1⟩, -⟩ := id HS.out; clear hb)
      | (go_at_call 8; with_reducible refine Calls.mono (check_s HV.out HF.out.2.1 HX.out HS.out) ?_; rintro e w3 ⟨rfl, hb⟩; replace HS := hid (sg_below HS.out hb); clear x0 x1; obtain ⟨⟨x0, x1⟩, -⟩ := id HS.out; clear hb))
    clear x0 x1
    go_loopg [3] n (fun gk x3 wr => ∃ (w4 : World) (i : Nat), w4 = wr ∧ i ≤ n ∧ gk = n - i ∧ x3 = .int .i64 i ∧ Sg w ao n c out w4)
    case atStart => exact ⟨_, 0, rfl, Nat.zero_le _, rfl, rfl, HS.out⟩
    case round =>
      clear HS
      obtain ⟨w4, i, rfl, hi, rfl, rfl, hS⟩ := hrel
      have HS := hid hS
      obtain ⟨⟨x0, x1⟩, -⟩ := id hS
      clear hS
      by_cases hlt : i < n
      · have hlz : (i : Int) < (n : Int) := by omega
        obtain ⟨v, hv⟩ : ∃ v, L[i]? = some v := ⟨_, List.getElem?_eq_getElem (by rw [HF.out.2.2]; exact hlt)⟩
        have hmem := List.mem_of_getElem? hv
        have hone := HC.out.2.2.1 v hmem
        obtain ⟨k1, k2, k3, k4, k5, k6⟩ := one_ok hone
        obtain ⟨rfl, ⟨c0, c1, c2⟩, g1, g2⟩ := vn_at (HV.out.below HS.out.2) hv
        have hself := no_self HC.out.2.2.2.2 (i := i) (by rw [few_l HF.out.2.2]; exact hlt)
        rw [insL_at hv] at hself
        have hil := vi_len g1
        have hpl := vi_len g2
        have hni := vz_small g1
        have hnp := vz_small g2
        obtain ⟨a, ha⟩ : ∃ a, a = leastI v.op := ⟨_, rfl⟩
        obtain ⟨d, hd⟩ : ∃ d, d = mostI v.op := ⟨_, rfl⟩
        rw [← ha, hil] at k2
        rw [← hd, hil] at k3
        rw [hpl] at k4
        have HA : Hid (arI v.op = .tuple #[.int .i64 a, .int .i64 d, .int .i64 (v.np : Int), .bool true]) := by show arI v.op = _; rw [ha, hd, k4]; unfold arI; rw [k1]
        have hpz : ((v.np : Int) != (v.np : Int)) = false := by simp
        have hn1 := nb_new w4 v.op v.ai v.ni v.ci v.ap v.np v.cp 31
        have hba : Below w4.heap.size w4 (w4.alloc (.cells #[.int .i64 v.op, .slice v.ai v.ni v.ci, .slice v.ap v.np v.cp] 31)) := (Below.refl _ _).alloc (Nat.le_refl _) _
        have HN := hid (And.intro hn1 (And.intro (sg_below HS.out hba) (And.intro (g1.below hba) (g2.below hba))))
        have HM := hid (And.intro hself (And.intro k5 (And.intro (show oneI v.op v.l v.p (n : Int) = 0 from hone) hil)))
        clear hn1 hba g1 g2 hself k5 k6 hone hil hpl ha hd k1 k4 hmem hv
        go_wp2_with (first
          | (go_at_call 9; with_reducible refine Calls.mono (arity_c HA.out _) ?_; rintro e w5 ⟨rfl, hb⟩; replace HN := hid (And.intro (HN.out.1.below hb) (And.intro (sg_below HN.out.2.1 hb) (And.intro (HN.out.2.2.1.below hb) (HN.out.2.2.2.below hb)))); clear x0 x1; obtain ⟨⟨x0, x1⟩, -⟩ := id HN.out.2.1; obtain ⟨y0, y1, y2⟩ := HN.out.1; clear hb)
          | (go_at_call 10; with_reducible refine Calls.mono (one_c HN.out.2.2.1 HN.out.2.2.2 HM.out.2.2.1) ?_; rintro e w6 ⟨rfl, hb⟩; replace HN := hid (And.intro (HN.out.1.below hb) (And.intro (sg_below HN.out.2.1 hb) (And.intro (HN.out.2.2.1.below hb) (HN.out.2.2.2.below hb)))); clear x0 x1 y0 y1 y2; obtain ⟨⟨x0, x1⟩, -⟩ := id HN.out.2.1; obtain ⟨y0, y1, y2⟩ := HN.out.1; clear hb))
        clear x0 x1 y0 y1 y2 hpz k2 k3
        go_loopg [9] v.ni (fun gj x9 wr2 => ∃ (w7 : World) (j : Nat), w7 = wr2 ∧ j ≤ v.ni ∧ gj = v.ni - j ∧ x9 = .int .i64 j ∧ Nb w7 w4.heap.size v.op v.ai v.ni v.ci v.ap v.np v.cp ∧ Sg w (some ⟨b, off, none⟩) n c out w7 ∧ Vi w7 v.ai v.ni v.ci v.bi v.oi v.l)
        case atStart => exact ⟨_, 0, rfl, Nat.zero_le _, rfl, rfl, HN.out.1, HN.out.2.1, HN.out.2.2.1⟩
        case round =>
          clear HN
          obtain ⟨w7, j, rfl, hj, rfl, rfl, hN, hS, hV⟩ := hrel
          have HN := hid (And.intro hN (And.intro hS hV))
          obtain ⟨y0, y1, y2⟩ := hN
          obtain ⟨⟨x0, x1⟩, -⟩ := id hS
          clear hS
          by_cases hjl : j < v.ni
          · have hjz : (j : Int) < (v.ni : Int) := by omega
            obtain ⟨m, hm⟩ : ∃ m, v.l[j]? = some m := ⟨_, List.getElem?_eq_getElem (by rw [HM.out.2.2.2]; exact hjl)⟩
            obtain ⟨hai, e0⟩ := vi_at hV hm
            have hml := List.mem_of_getElem? hm
            have hin := inp_mem HM.out.2.1 hml
            have hne : m ≠ (i : Int) := fun e => HM.out.1 (e ▸ hml)
            have t1 : decide (m < -1) = false := by rw [decide_eq_false_iff_not]; omega
            have t2 : decide ((n : Int) ≤ m) = false := by rw [decide_eq_false_iff_not]; omega
            have t3 : decide (m = (i : Int)) = false := by rw [decide_eq_false_iff_not]; exact hne
            have t4 : (m == (i : Int)) = false := by simpa using hne
            have t5 : ¬ m = (i : Int) := hne
            rw [hai] at y1
            clear hin hne hml hm hV hai
            go_wp2
            go_quiet (fail)
            go_wp2
            go_roundg (v.ni - (j + 1))
            case measure => omega
            case rel => exact ⟨_, j + 1, rfl, hjl, rfl, by simp, HN.out.1.below (below_drewN (Below.refl _ _) _), sg_below HN.out.2.1 (below_drewN (Below.refl _ _) _), HN.out.2.2.below (below_drewN (Below.refl _ _) _)⟩
          · obtain rfl : j = v.ni := by omega
            clear hV
            go_wp2
            go_roundg (n - (i + 1))
            case measure => omega
            case rel => exact ⟨_, i + 1, rfl, hlt, rfl, by simp, HN.out.2.1⟩
      · obtain rfl : i = n := by omega
        obtain ⟨z1, z2, -, ⟨z3, z4⟩, -⟩ := HC.out
        have z5 : ((i : Nat) : Int) ≤ 256 := by omega
        go_wp2
        go_ret
        exact ⟨ret_bool (by first | (simp; done) | (simp; omega)), HS.out.2⟩
  · obtain ⟨x, hx⟩ : ∃ x, x = checkI L out := ⟨_, rfl⟩
    rw [← hx] at hX
    have HX : Hid (checkI L out = x) := hx.symm
    clear hx
    go_enter Try.func3, Try.ntmps3
    go_wp2_with (first
      | (go_at_call 6; with_reducible refine Calls.mono (awake_any _) ?_; rintro e w1 ⟨rfl, hb⟩; replace HS := hid (sg_below HS.out hb); obtain ⟨⟨x0, x1⟩, -⟩ := id HS.out; clear hb)
      | (go_at_call 7; with_reducible refine Calls.mono (few_any _ _ _ b off L _ 300 _ (HV.out.below HS.out.2) (by decide)) ?_; rintro e w2 ⟨rfl, hb⟩; replace HS := hid (sg_below HS.out hb); rw [HF.out.1]; clear x0 x1; obtain ⟨⟨x0, x1⟩, -⟩ := id HS.out; clear hb)
      | (go_at_call 8; with_reducible refine Calls.mono (check_s HV.out HF.out.2.1 HX.out HS.out) ?_; rintro e w3 ⟨rfl, hb⟩; replace HS := hid (sg_below HS.out hb); clear x0 x1; obtain ⟨⟨x0, x1⟩, -⟩ := id HS.out; clear hb))
    go_ret
    exact ⟨rfl, HS.out.2⟩

theorem own : ownKnob Try.prog.godebug = none := by kernel_rfl

set_option maxHeartbeats 400000 in
set_option maxRecDepth 100000 in
theorem lifted (os : Os) (started : os.Started) (H : Type) (enc : TypeId × Value → H) :
    ReturnsInHanded {} Try.checked os 3 .any (Rows.nodeBoundsSpec.pre6 enc Try.prog Try.f3 Rows.nodeBoundsRow.domain false) (Rows.nodeBoundsSpec.post enc Try.prog Try.f3 false true false false) := by
  refine returnsInHanded_of_change (C := Try.checked) own started (by kernel_rfl) Try.func3
    (ChangeSpec.witness6 (enc := enc) (C := Try.checked) false ⟨#[], #[.agg #[.slice none 0 0, .int .i64 0]], []⟩ 8 (by kernel_rfl) (by kernel_rfl) (by kernel_rfl) (by kernel_rfl)) ?_
  intro W base args ds gs before hval0 hW hcnd _
  have hval : ∀ (j : Nat) t v, Try.f3.params[j]? = some t → args[j]? = some v → Value.okWide Try.prog W .any base t v := hval0
  have hW' := hW
  obtain ⟨p, q, hA0, hV, rfl, hfz, hnd⟩ := hW
  have hA : DataW.TrodAll enc Try.prog W 0 (fun _ => true) true Try.f3.params.toList args.toList ds p := hA0
  rw [Try.params3] at hA hval
  obtain ⟨v0, vs0, d0, ds0, p0, q0, hargs, rfl, rfl, h0, r0⟩ := trodAll_cons hA
  obtain ⟨rfl, rfl, rfl⟩ := trodAll_nil r0
  obtain rfl : args = #[v0] := by cases args; simp_all
  obtain ⟨rfl, rfl⟩ := trodVars_none hV
  obtain ⟨ao0, n0, c0, b0, off0, L0, out0, rfl, hv0⟩ := open_graph (hval 0 24 v0 rfl rfl) h0
  clear hA0 hval0
  simp only [List.append_nil] at hW'
  have hlt0 : ∀ x ∈ p0, x.block < W.heap.size := fun x hx => hW'.lt x (by simp [hx])
  refine (walk ao0 n0 c0 b0 off0 L0 out0 W hv0).mono fun e W' ⟨he, hg⟩ => ?_
  subst he
  have t0 := Below.trod laidOut (by kernel_rfl) (of_decide_eq_true (by kernel_rfl)) h0 hg (fun x hx => hlt0 x hx)
  exact ⟨_, rfl, ⟨_, _, _, _, _, _, hW', (trodAll_cons_mk (shut_bool Try.underlying4 _) trodAll_mk0), (trodAll_cons_mk t0 trodAll_mk0), rfl, hg.frame _, fun h => by cases h⟩⟩

theorem over : Rows.nodeBoundsRow.holds Try.pinned (OpenSpec.ofChange Rows.nodeBoundsSpec) :=
  OpenClaim.holds_of_wide 3 Try.f3 rfl rfl rfl rfl rfl rfl rfl ⟨rfl, rfl, rfl, rfl, rfl⟩ rfl rfl rfl rfl rfl (by kernel_rfl) Try.func3 (by kernel_rfl)
    (of_decide_eq_true (by kernel_rfl)) (by unfold Func.isWrapper; first | (rw [if_pos (by decide +kernel)]; kernel_rfl) | (rw [if_neg (by decide +kernel)]; exact ⟨rfl, rfl⟩))
    (fun os started H enc _ => lifted os started H enc)

theorem proved : Rows.NodeBoundsSaid := over
#print axioms proved
end Go.Proofs.Ytleclkjinkbebaa.nodeBounds
