/- For every filter whose Out is a node's place: Out is needed, and a node is needed just if it is Out or one that uses it is; no condition. -/
import Derived.Test.YtccbgekijnkhpaaRows
import Derived.WalkKit
import Derived.ProofKit
import Derived.OpenShut
import Derived.Test.YtccbgekijnkhpaaOpen
import Derived.Test.YtccbgekijnkhpaaLawS
namespace Go.Proofs.Ytccbgekijnkhpaa.orderNeeds
open Go.ChangeShapes Go.WideShapes Go.ChangeAt Go.RowKit Num
set_option linter.unusedVariables false
set_option linter.unusedSimpArgs false

/-- is it Out, or is one of the first k that use it needed? -/
def usd (G : List (List Int)) (out : Int) (N : List Bool) (i k : Nat) : Bool := decide ((i : Int) = out) || ((usesG G i).take k).any (bt N)
theorem usd_start (G : List (List Int)) (out : Int) (N : List Bool) (i : Nat) : usd G out N i 0 = decide ((i : Int) = out) := by unfold usd; simp
theorem usd_step {G : List (List Int)} {out : Int} {N : List Bool} {i k t : Nat} (h : (usesG G i)[k]? = some t) : usd G out N i (k + 1) = (usd G out N i k || bt N t) := by
  unfold usd
  rw [List.take_add_one, h, List.any_append, ← Bool.or_assoc]
  simp
theorem usd_end {G : List (List Int)} {out : Int} {N : List Bool} {i : Nat} (h : Nd G out N) (hi : i < G.length) : usd G out N i (usesG G i).length = bt N i := by
  rw [Bool.eq_iff_iff, nd_used h hi]
  unfold usd
  rw [List.take_length, Bool.or_eq_true, decide_eq_true_eq, List.any_eq_true]
  exact or_congr eq_comm Iff.rfl

set_option maxRecDepth 100000 in
set_option maxHeartbeats 8000000 in
theorem walk (ao : Option Addr) (n c b off : Nat) (L : List Nv) (out : Int) (w : World) (h : Vn w ao n c b off L) :
    Calls Try.prog 5 #[.agg #[.slice ao n c, .int .i64 out]] w fun e w' => e = .returned (.bool true) ∧ Below w.heap.size w w' := by
  have hl := vn_len h
  have hs0 := sg_new w ao n c out 24
  have HS := hid hs0
  have HV := hid h
  clear h hs0
  rcases hfew : fewB L 100 with _ | _
  · have HF := hid hfew
    clear hfew
    go_enter Try.func5, Try.ntmps5
    go_wp2_with (first
      | (go_at_call 8; with_reducible refine Calls.mono (awake_any _) ?_; rintro e w1 ⟨rfl, hb⟩; replace HS := hid (sg_below HS.out hb); obtain ⟨⟨x0, x1⟩, -⟩ := id HS.out; clear hb)
      | (go_at_call 19; with_reducible refine Calls.mono (few_any _ _ _ b off L _ 100 _ (HV.out.below HS.out.2) (by decide)) ?_; rintro e w2 ⟨rfl, hb⟩; replace HS := hid (sg_below HS.out hb); rw [HF.out]; clear hb x0 x1))
    go_ret
    exact ⟨rfl, HS.out.2⟩
  · obtain ⟨hn, hf, -⟩ := few_of hl hfew (by decide)
    have HF := hid (And.intro hfew (And.intro hf (few_l hl)))
    clear hfew hf
    by_cases h0 : out < 0
    · go_enter Try.func5, Try.ntmps5
      go_wp2_with (first
        | (go_at_call 8; with_reducible refine Calls.mono (awake_any _) ?_; rintro e w1 ⟨rfl, hb⟩; replace HS := hid (sg_below HS.out hb); obtain ⟨⟨x0, x1⟩, -⟩ := id HS.out; clear hb)
        | (go_at_call 19; with_reducible refine Calls.mono (few_any _ _ _ b off L _ 100 _ (HV.out.below HS.out.2) (by decide)) ?_; rintro e w2 ⟨rfl, hb⟩; replace HS := hid (sg_below HS.out hb); rw [HF.out.1]; clear x0 x1; obtain ⟨⟨x0, x1⟩, -⟩ := id HS.out; clear hb))
      go_ret
      exact ⟨rfl, HS.out.2⟩
    by_cases h1 : (n : Int) ≤ out
    · go_enter Try.func5, Try.ntmps5
      go_wp2_with (first
        | (go_at_call 8; with_reducible refine Calls.mono (awake_any _) ?_; rintro e w1 ⟨rfl, hb⟩; replace HS := hid (sg_below HS.out hb); obtain ⟨⟨x0, x1⟩, -⟩ := id HS.out; clear hb)
        | (go_at_call 19; with_reducible refine Calls.mono (few_any _ _ _ b off L _ 100 _ (HV.out.below HS.out.2) (by decide)) ?_; rintro e w2 ⟨rfl, hb⟩; replace HS := hid (sg_below HS.out hb); rw [HF.out.1]; clear x0 x1; obtain ⟨⟨x0, x1⟩, -⟩ := id HS.out; clear hb))
      go_ret
      exact ⟨rfl, HS.out.2⟩
    obtain ⟨z, rfl⟩ : ∃ z : Nat, out = (z : Int) := ⟨out.toNat, by omega⟩
    have hzn : z < n := by omega
    have hzz : (z : Int) < (n : Int) := by omega
    go_enter Try.func5, Try.ntmps5
    go_wp2_with (first
      | (go_at_call 8; with_reducible refine Calls.mono (awake_any _) ?_; rintro e w1 ⟨rfl, hb⟩; replace HS := hid (sg_below HS.out hb); obtain ⟨⟨x0, x1⟩, -⟩ := id HS.out; clear hb)
      | (go_at_call 19; with_reducible refine Calls.mono (few_any _ _ _ b off L _ 100 _ (HV.out.below HS.out.2) (by decide)) ?_; rintro e w2 ⟨rfl, hb⟩; replace HS := hid (sg_below HS.out hb); rw [HF.out.1]; clear x0 x1; obtain ⟨⟨x0, x1⟩, -⟩ := id HS.out; clear hb)
      | (go_at_call 15; with_reducible refine Calls.mono (needed_any _ _ _ b off L _ _ (HV.out.below HS.out.2) HF.out.2.1) ?_; rintro e w8 ⟨⟨N, hr, hN⟩, hb⟩; obtain ⟨aN, m, cN, bN, oN, rfl, hO⟩ := retT hr; obtain rfl := ot_n HF.out.2.2 hN hO; have HN := hid (And.intro hO hN); replace HS := hid (sg_below HS.out hb); clear x0 x1; obtain ⟨⟨x0, x1⟩, -⟩ := id HS.out; clear hb hr hO hN)
      | (go_at_call 17; with_reducible refine Calls.mono (uses_any _ _ _ b off L _ _ (HV.out.below HS.out.2) HF.out.2.1) ?_; rintro e w9 ⟨hr, hb⟩; obtain ⟨aU, m, cU, gU, oU, U, rfl, hO, hU⟩ := retU hr; obtain rfl := fs_n HF.out.2.2 hU hO; have HU := hid (And.intro (HN.out.1.below hb) (And.intro HN.out.2 (And.intro hO hU))); replace HS := hid (sg_below HS.out hb); clear x0 x1; obtain ⟨⟨x0, x1⟩, -⟩ := id HS.out; obtain ⟨rfl, y0⟩ := vt_at HU.out.1.v (bt_get (i := z) (lt_len HU.out.2.1.len HF.out.2.2 hzn)); rw [nd_out HU.out.2.1 HF.out.2.2 hzn] at y0; clear hb hr hO hU HN))
    go_loopg [5, 6, 7] n (fun gk x5 x6 x7 wr => ∃ i : Nat, i ≤ n ∧ gk = n - i ∧ x5 = .int .i64 i ∧ w9 = wr)
    case atStart => exact ⟨0, Nat.zero_le _, rfl, rfl, rfl⟩
    case round =>
      obtain ⟨i, hi, rfl, rfl, rfl⟩ := hrel
      clear y0
      by_cases hlt : i < n
      · have hltz : (i : Int) < (n : Int) := by omega
        obtain ⟨u, hu, hul⟩ := lv_get HU.out.2.2.2 (i := i) (by rw [HF.out.2.2]; exact hlt)
        obtain ⟨rfl, e3, -, ho3⟩ := fs_at HU.out.2.2.1 hu
        have hvi := ho3.v
        rw [hul] at hvi
        have hun : u.n = (usesG (insL L) i).length := by have := vi_len hvi; rw [castL_len] at this; omega
        have hu1 := vz_small hvi
        have HE := hid (And.intro hvi hun)
        clear hu hul ho3 hvi hun
        generalize u.ao = ua at *
        generalize u.n = un at *
        generalize u.c = uc at *
        generalize u.b = ub at *
        generalize u.off = uo at *
        clear u
        go_wp2
        go_loopg [6, 7] un (fun gk x6 x7 wr => ∃ k : Nat, k ≤ un ∧ gk = un - k ∧ x7 = .int .i64 k ∧ x6 = .bool (usd (insL L) z N i k) ∧ w9 = wr)
        case atStart => exact ⟨0, Nat.zero_le _, rfl, rfl, by rw [usd_start]; rfl, rfl⟩
        case round =>
          obtain ⟨k, hk, rfl, rfl, rfl, rfl⟩ := hrel
          by_cases hklt : k < un
          · have hklz : (k : Int) < (un : Int) := by omega
            obtain ⟨t, ht⟩ : ∃ t, (usesG (insL L) i)[k]? = some t := ⟨_, List.getElem?_eq_getElem (by rw [← HE.out.2]; exact hklt)⟩
            have hut := hid (usd_step (out := (z : Int)) (N := N) ht)
            have htn : t < n := by have := (mem_uses.1 (List.mem_of_getElem? ht)).1; rw [HF.out.2.2] at this; exact this
            have htz : (t : Int) < (n : Int) := by omega
            obtain ⟨rfl, e4⟩ := vi_at HE.out.1 (castL_get ht)
            have e5 := (vt_at HU.out.1.v (bt_get (i := t) (lt_len HU.out.2.1.len HF.out.2.2 htn))).2
            clear ht
            rcases hus : usd (insL L) z N i k with _ | _
            · have HO := hid hus
              clear hus
              go_wp2
              go_roundg (un - (k + 1))
              case measure => omega
              case rel => exact ⟨k + 1, hklt, rfl, by simp, by rw [hut.out, HO.out]; rfl, rfl⟩
            · have HO := hid hus
              clear hus
              go_wp2
              go_roundg (un - (k + 1))
              case measure => omega
              case rel => exact ⟨k + 1, hklt, rfl, by simp, by rw [hut.out, HO.out]; rfl, rfl⟩
          · obtain rfl : k = un := by omega
            have hen := usd_end HU.out.2.1 (i := i) (by rw [HF.out.2.2]; exact hlt)
            rw [← HE.out.2] at hen
            rw [hen]
            have e5 := (vt_at HU.out.1.v (bt_get (i := i) (lt_len HU.out.2.1.len HF.out.2.2 hlt))).2
            clear hen
            go_wp2
            go_roundg (n - (i + 1))
            case measure => omega
            case rel => exact ⟨i + 1, hlt, rfl, by simp, rfl⟩
      · obtain rfl : i = n := by omega
        go_wp2
        go_ret
        exact ⟨rfl, HS.out.2⟩

theorem own : ownKnob Try.prog.godebug = none := by kernel_rfl

set_option maxHeartbeats 400000 in
set_option maxRecDepth 100000 in
theorem lifted (os : Os) (started : os.Started) (H : Type) (enc : TypeId × Value → H) :
    ReturnsInHanded {} Try.checked os 5 .any (Rows.orderNeedsSpec.pre6 enc Try.prog Try.f5 Rows.orderNeedsRow.domain false) (Rows.orderNeedsSpec.post enc Try.prog Try.f5 false true false false) := by
  refine returnsInHanded_of_change (C := Try.checked) own started (by kernel_rfl) Try.func5
    (ChangeSpec.witness6 (enc := enc) (C := Try.checked) false ⟨#[], #[.agg #[.slice none 0 0, .int .i64 0]], []⟩ 8 (by kernel_rfl) (by kernel_rfl) (by kernel_rfl) (by kernel_rfl)) ?_
  intro W base args ds gs before hval0 hW hcnd _
  have hval : ∀ (j : Nat) t v, Try.f5.params[j]? = some t → args[j]? = some v → Value.okWide Try.prog W .any base t v := hval0
  have hW' := hW
  obtain ⟨p, q, hA0, hV, rfl, hfz, hnd⟩ := hW
  have hA : DataW.TrodAll enc Try.prog W 0 (fun _ => true) true Try.f5.params.toList args.toList ds p := hA0
  rw [Try.params5] at hA hval
  obtain ⟨v0, vs0, d0, ds0, p0, q0, hargs, rfl, rfl, h0, r0⟩ := trodAll_cons hA
  obtain ⟨rfl, rfl, rfl⟩ := trodAll_nil r0
  obtain rfl : args = #[v0] := by cases args; simp_all
  obtain ⟨rfl, rfl⟩ := trodVars_none hV
  obtain ⟨ao0, n0, c0, b0, off0, L0, out0, rfl, hv0⟩ := open_graph (hval 0 24 v0 rfl rfl) h0
  clear hA0 hval0
  simp only [List.append_nil] at hW'
  have hlt : ∀ x ∈ p0, x.block < W.heap.size := fun x hx => by simpa using hW'.lt x (by simpa using hx)
  refine (walk ao0 n0 c0 b0 off0 L0 out0 W hv0).mono fun e W' ⟨he, hg⟩ => ?_
  subst he
  have t0 := Below.trod laidOut (by kernel_rfl) (of_decide_eq_true (by kernel_rfl)) h0 hg (fun x hx => hlt x hx)
  exact ⟨_, rfl, ⟨_, _, _, _, _, _, hW', (trodAll_cons_mk (shut_bool Try.underlying4 _) trodAll_mk0), (trodAll_cons_mk t0 trodAll_mk0), rfl, hg.frame _, fun h => by cases h⟩⟩

theorem over : Rows.orderNeedsRow.holds Try.pinned (OpenSpec.ofChange Rows.orderNeedsSpec) :=
  OpenClaim.holds_of_wide 5 Try.f5 rfl rfl rfl rfl rfl rfl rfl ⟨rfl, rfl, rfl, rfl, rfl⟩ rfl rfl rfl rfl rfl (by kernel_rfl) Try.func5 (by kernel_rfl)
    (of_decide_eq_true (by kernel_rfl)) (by unfold Func.isWrapper; first | (rw [if_pos (by decide +kernel)]; kernel_rfl) | (rw [if_neg (by decide +kernel)]; exact ⟨rfl, rfl⟩))
    (fun os started H enc _ => lifted os started H enc)

theorem proved : Rows.OrderNeedsSaid := over
#print axioms proved
end Go.Proofs.Ytccbgekijnkhpaa.orderNeeds
