/- For every filter: the order, whether nodes lead round, which are needed, and who uses whom are as the document says; no condition. -/
import Derived.Test.YtccbgekijnkhpaaRows
import Derived.WalkKit
import Derived.ProofKit
import Derived.OpenShut
import Derived.Test.YtccbgekijnkhpaaOpen
import Derived.Test.YtccbgekijnkhpaaLawS
import Derived.Test.YtccbgekijnkhpaaRefRound
import Derived.Test.YtccbgekijnkhpaaRefNeed
import Derived.Test.YtccbgekijnkhpaaRefUses
namespace Go.Proofs.Ytccbgekijnkhpaa.orderAlls
open Go.ChangeShapes Go.WideShapes Go.ChangeAt Go.RowKit Num
set_option linter.unusedVariables false
set_option linter.unusedSimpArgs false

set_option maxRecDepth 100000 in
set_option maxHeartbeats 8000000 in
theorem walk (ao : Option Addr) (n c b off : Nat) (L : List Nv) (out : Int) (w : World) (h : Vn w ao n c b off L) :
    Calls Try.prog 3 #[.agg #[.slice ao n c, .int .i64 out]] w fun e w' => e = .returned (.bool true) ∧ Below w.heap.size w w' := by
  have hl := vn_len h
  have hs0 := sg_new w ao n c out 24
  have HS := hid hs0
  have HV := hid h
  clear h hs0
  rcases hfew : fewB L 24 with _ | _
  · have HF := hid hfew
    clear hfew
    go_enter Try.func3, Try.ntmps3
    go_wp2_with (first
      | (go_at_call 8; with_reducible refine Calls.mono (awake_any _) ?_; rintro e w1 ⟨rfl, hb⟩; replace HS := hid (sg_below HS.out hb); obtain ⟨⟨x0, x1⟩, -⟩ := id HS.out; clear hb)
      | (go_at_call 9; with_reducible refine Calls.mono (few9_any _ _ _ b off L _ _ (HV.out.below HS.out.2)) ?_; rintro e w2 ⟨rfl, hb⟩; replace HS := hid (sg_below HS.out hb); rw [HF.out]; clear hb x0 x1))
    go_ret
    exact ⟨rfl, HS.out.2⟩
  · obtain ⟨hn, hf, -⟩ := few_of hl hfew (by decide)
    have HF := hid (And.intro hfew (And.intro hf (few_l hl)))
    clear hfew hf
    go_enter Try.func3, Try.ntmps3
    go_wp2_with (first
      | (go_at_call 8; with_reducible refine Calls.mono (awake_any _) ?_; rintro e w1 ⟨rfl, hb⟩; replace HS := hid (sg_below HS.out hb); obtain ⟨⟨x0, x1⟩, -⟩ := id HS.out; clear hb)
      | (go_at_call 9; with_reducible refine Calls.mono (few9_any _ _ _ b off L _ _ (HV.out.below HS.out.2)) ?_; rintro e w2 ⟨rfl, hb⟩; replace HS := hid (sg_below HS.out hb); rw [HF.out.1]; clear hb x0 x1))
    have hS : Sg w ao n c out w2 := HS.out
    go_region_held3 (fun w' => (w'.cell? ⟨w.heap.size, 0, none⟩ = some (.slice ao n c) ∧ w'.cell? ⟨w.heap.size, 1, none⟩ = some (.int .i64 out)) ∧ Below w.heap.size w w') (repeat (first | with_reducible assumption | with_reducible refine sg_drew ?_ | with_reducible refine sg_below ?_ ‹_›)) ((first
      | (go_at_call 11; with_reducible refine Calls.mono (all_s HV.out HF.out.2.1 (by with_reducible assumption)) ?_; rintro e w3 ⟨hr, hb⟩; obtain ⟨a1, n1, c1, b1, o1, rfl, hO⟩ := retI hr; have HA := hid hO; clear hr hO)
      | (go_at_call 12; with_reducible refine Calls.mono (refAll_s HV.out HF.out.2.1 (by with_reducible assumption)) ?_; rintro e w4 ⟨hr, hb⟩; obtain ⟨a2, n2, c2, b2, o2, rfl, hO⟩ := retI hr; have HA2 := hid (And.intro (HA.out.below hb) hO); clear hr hO HA)
      | (go_at_call 10; with_reducible refine Calls.mono (equal_any _ _ _ _ _ _ _ _ _ _ _ _ _ HA2.out.1.v HA2.out.2.v) ?_; rintro e w5 ⟨rfl, hb⟩; rw [dec_self]; clear HA2)
      | (go_at_call 13; with_reducible refine Calls.mono (round_s HV.out HF.out.2.1 (by with_reducible assumption)) ?_; rintro e w6 ⟨rfl, hb⟩)
      | (go_at_call 14; with_reducible refine Calls.mono (refRound_s HV.out HF.out.2.1 (by with_reducible assumption)) ?_; rintro e w7 ⟨rfl, hb⟩)))
    rename_i hh
    replace HS := hid hh
    obtain ⟨⟨x0, x1⟩, -⟩ := id hh
    clear hS hh
    go_wp2_with (first
      | (go_at_call 15; with_reducible refine Calls.mono (needed_any _ _ _ b off L _ _ (HV.out.below HS.out.2) HF.out.2.1) ?_; rintro e w8 ⟨⟨N, hr, hN⟩, hb⟩; obtain ⟨aN, m, cN, bN, oN, rfl, hO⟩ := retT hr; obtain rfl := ot_n HF.out.2.2 hN hO; have HN := hid (And.intro hO hN); replace HS := hid (sg_below HS.out hb); obtain ⟨⟨x0, x1⟩, -⟩ := id HS.out; clear hb hr hO hN)
      | (go_at_call 16; with_reducible refine Calls.mono (refNeed_any _ _ _ b off L _ _ (HV.out.below HS.out.2) HF.out.2.1) ?_; rintro e w9 ⟨⟨M, hr, hM⟩, hb⟩; obtain ⟨aM, m, cM, bM, oM, rfl, hO⟩ := retT hr; obtain rfl := ot_n HF.out.2.2 hM hO; rw [nd_uniq hM HN.out.2] at hO; have HM := hid (And.intro (HN.out.1.below hb) hO); replace HS := hid (sg_below HS.out hb); obtain ⟨⟨x0, x1⟩, -⟩ := id HS.out; clear hb hr hO hM)
      | (go_at_call 17; with_reducible refine Calls.mono (uses_any _ _ _ b off L _ _ (HV.out.below HS.out.2) HF.out.2.1) ?_; rintro e w10 ⟨hr, hb⟩; obtain ⟨aU, m, cU, gU, oU, U, rfl, hO, hU⟩ := retU hr; obtain rfl := fs_n HF.out.2.2 hU hO; have HU := hid (And.intro (HM.out.1.below hb) (And.intro (HM.out.2.below hb) (And.intro hO hU))); replace HS := hid (sg_below HS.out hb); obtain ⟨⟨x0, x1⟩, -⟩ := id HS.out; clear hb hr hO hU HM)
      | (go_at_call 18; with_reducible refine Calls.mono (refUses_any _ _ _ b off L _ _ (HV.out.below HS.out.2) HF.out.2.1) ?_; rintro e w11 ⟨hr, hb⟩; obtain ⟨aR, m, cR, gR, oR, R, rfl, hO, hR⟩ := retU hr; obtain rfl := fs_n HF.out.2.2 hR hO; have HR := hid (And.intro (HU.out.1.below hb) (And.intro (HU.out.2.1.below hb) (And.intro (HU.out.2.2.1.below hb) (And.intro HU.out.2.2.2 (And.intro hO hR))))); replace HS := hid (sg_below HS.out hb); obtain ⟨⟨x0, x1⟩, -⟩ := id HS.out; clear hb hr hO hR HU))
    clear x0 x1
    go_loopg [7] n (fun gk x7 wr => ∃ (w12 : World) (i : Nat), w12 = wr ∧ i ≤ n ∧ gk = n - i ∧ x7 = .int .i64 i ∧ Below w11.heap.size w11 w12)
    case atStart => exact ⟨_, 0, rfl, Nat.zero_le _, rfl, rfl, Below.refl _ _⟩
    case round =>
      obtain ⟨w12, i, rfl, hi, rfl, rfl, hB⟩ := hrel
      have HB := hid hB
      obtain ⟨⟨x0, x1⟩, -⟩ := sg_below HS.out hB
      clear hB
      by_cases hlt : i < n
      · have hltz : (i : Int) < (n : Int) := by omega
        obtain ⟨u, hu, hul⟩ := lv_get HR.out.2.2.2.1 (i := i) (by rw [HF.out.2.2]; exact hlt)
        obtain ⟨r, hr, hrl⟩ := lv_get HR.out.2.2.2.2.2 (i := i) (by rw [HF.out.2.2]; exact hlt)
        have hNl : i < N.length := by rw [HN.out.2.len, HF.out.2.2]; exact hlt
        obtain ⟨rfl, e1⟩ := vt_at (HR.out.1.v.below HB.out) (bt_get (i := i) hNl)
        obtain ⟨rfl, e2⟩ := vt_at (HR.out.2.1.v.below HB.out) (bt_get (i := i) hNl)
        obtain ⟨rfl, e3, -, ho3⟩ := fs_at (HR.out.2.2.1.below HB.out) hu
        obtain ⟨rfl, e4, -, ho4⟩ := fs_at (HR.out.2.2.2.2.1.below HB.out) hr
        have HE := hid (And.intro ho3.v (And.intro ho4.v (hul.trans hrl.symm)))
        have hS : S4 w12 bN (oN + i) (.bool (bt N i)) bM (oM + i) (.bool (bt N i)) gU (oU + i) (.slice u.ao u.n u.c) gR (oR + i) (.slice r.ao r.n r.c) w12 := ⟨⟨e1, e2, e3, e4⟩, Below.refl _ _⟩
        clear hu hul hr hrl ho3 ho4 e1 e2 e3 e4
        go_wp2
        go_region_held3 (fun w' => (w'.cell? ⟨bN, oN + i, none⟩ = some (.bool (bt N i)) ∧ w'.cell? ⟨bM, oM + i, none⟩ = some (.bool (bt N i)) ∧ w'.cell? ⟨gU, oU + i, none⟩ = some (.slice u.ao u.n u.c) ∧ w'.cell? ⟨gR, oR + i, none⟩ = some (.slice r.ao r.n r.c)) ∧ Below w12.heap.size w12 w') (repeat (first | with_reducible assumption | with_reducible refine s4_drew ?_ | with_reducible refine s4_below ?_ ‹_›)) ((first
          | (go_at_call 10; with_reducible refine Calls.mono (equal_s HE.out.1 HE.out.2.1 HE.out.2.2 (by with_reducible assumption)) ?_; rintro e w13 ⟨rfl, hb⟩)))
        rename_i hh
        have HH := hid hh
        clear hh hS
        go_wp2
        go_roundg (n - (i + 1))
        case measure => omega
        case rel => exact ⟨_, i + 1, rfl, hlt, rfl, by simp, via (w := w11) HB.out HH.out.2⟩
      · obtain rfl : i = n := by omega
        go_wp2
        go_ret
        exact ⟨rfl, via (w := w) HS.out.2 HB.out⟩

theorem own : ownKnob Try.prog.godebug = none := by kernel_rfl

set_option maxHeartbeats 400000 in
set_option maxRecDepth 100000 in
theorem lifted (os : Os) (started : os.Started) (H : Type) (enc : TypeId × Value → H) :
    ReturnsInHanded {} Try.checked os 3 .any (Rows.orderAllsSpec.pre6 enc Try.prog Try.f3 Rows.orderAllsRow.domain false) (Rows.orderAllsSpec.post enc Try.prog Try.f3 false true false false) := by
  refine returnsInHanded_of_change (C := Try.checked) own started (by kernel_rfl) Try.func3
    (ChangeSpec.witness6 (enc := enc) (C := Try.checked) false ⟨#[], #[.agg #[.slice none 0 0, .int .i64 0]], []⟩ 8 (by kernel_rfl) (by kernel_rfl) (by kernel_rfl) (by kernel_rfl)) ?_
  intro W base args ds gs before hval0 hW hcnd _
  have hval : ∀ (j : Nat) t v, Try.f3.params[j]? = some t → args[j]? = some v → Value.okWide Try.prog W .any base t v := hval0
  have hW' := hW
  obtain ⟨p, q, hA0, hV, rfl, hfz, hnd⟩ := hW
  have hA : DataW.TrodAll enc Try.prog W 0 (fun _ => true) true Try.f3.params.toList args.toList ds p := hA0
  rw [Try.params3] at hA hval
  obtain ⟨v0, vs0, d0, ds0, p0, q0, hargs, rfl, rfl, h0, r0⟩ := trodAll_cons hA
  obtain ⟨rfl, rfl, rfl⟩ := trodAll_nil r0
  obtain rfl : args = #[v0] := by cases args; simp_all
  obtain ⟨rfl, rfl⟩ := trodVars_none hV
  obtain ⟨ao0, n0, c0, b0, off0, L0, out0, rfl, hv0⟩ := open_graph (hval 0 24 v0 rfl rfl) h0
  clear hA0 hval0
  simp only [List.append_nil] at hW'
  have hlt : ∀ x ∈ p0, x.block < W.heap.size := fun x hx => by simpa using hW'.lt x (by simpa using hx)
  refine (walk ao0 n0 c0 b0 off0 L0 out0 W hv0).mono fun e W' ⟨he, hg⟩ => ?_
  subst he
  have t0 := Below.trod laidOut (by kernel_rfl) (of_decide_eq_true (by kernel_rfl)) h0 hg (fun x hx => hlt x hx)
  exact ⟨_, rfl, ⟨_, _, _, _, _, _, hW', (trodAll_cons_mk (shut_bool Try.underlying4 _) trodAll_mk0), (trodAll_cons_mk t0 trodAll_mk0), rfl, hg.frame _, fun h => by cases h⟩⟩

theorem over : Rows.orderAllsRow.holds Try.pinned (OpenSpec.ofChange Rows.orderAllsSpec) :=
  OpenClaim.holds_of_wide 3 Try.f3 rfl rfl rfl rfl rfl rfl rfl ⟨rfl, rfl, rfl, rfl, rfl⟩ rfl rfl rfl rfl rfl (by kernel_rfl) Try.func3 (by kernel_rfl)
    (of_decide_eq_true (by kernel_rfl)) (by unfold Func.isWrapper; first | (rw [if_pos (by decide +kernel)]; kernel_rfl) | (rw [if_neg (by decide +kernel)]; exact ⟨rfl, rfl⟩))
    (fun os started H enc _ => lifted os started H enc)

theorem proved : Rows.OrderAllsSaid := over
#print axioms proved
end Go.Proofs.Ytccbgekijnkhpaa.orderAlls
