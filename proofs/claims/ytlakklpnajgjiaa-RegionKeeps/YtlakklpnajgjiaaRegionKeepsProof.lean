/- What is handed in stays, whatever is written into what was answered; no condition. -/
import Derived.Test.YtlakklpnajgjiaaRows
import Derived.WalkKit
import Derived.ProofKit
import Derived.OpenShut
import Derived.Test.YtlakklpnajgjiaaOpen
import Derived.Test.YtlakklpnajgjiaaThree
namespace Go.Proofs.Ytlakklpnajgjiaa.regionKeeps
open Go.ChangeShapes Go.WideShapes Go.ChangeAt Go.RowKit Num
set_option linter.unusedVariables false
set_option linter.unusedSimpArgs false

theorem of_few {l : List R} (h : (fewB l && refRightB l) = true) : l.length ≤ 20 ∧ Reg l ∧ ∀ r ∈ l, Ok r := by
  rw [Bool.and_eq_true] at h
  have h1 := h.1
  unfold fewB at h1
  rw [Bool.and_eq_true] at h1
  exact ⟨of_decide_eq_true h1.1, of_refRight h.2⟩

set_option maxRecDepth 100000 in
set_option maxHeartbeats 4000000 in
theorem walk (ao : Option Addr) (n c b off : Nat) (l : List R) (ao' : Option Addr) (n' c' b' off' : Nat) (l' : List R) (w : World) (h : Vw w ao n c b off l) (h' : Vw w ao' n' c' b' off' l') :
    Calls Try.prog 7 #[.slice ao n c, .slice ao' n' c'] w fun e w' => e = .returned (.bool true) ∧ Below w.heap.size w w' := by
  have H := hid (And.intro h h')
  have HB := hid (Below.refl w.heap.size w)
  have hln := vw_len h
  have hln' := vw_len h'
  clear h h'
  rcases hR : (fewB l && refRightB l) with _ | _
  · have HR := hid hR
    clear hR hln hln'
    go_enter Try.func7, Try.ntmps7
    go_wp2_with (first
      | (go_at_call 8; with_reducible refine Calls.mono (awake_any _) ?_; rintro e wc ⟨rfl, hb⟩; replace HB := hid (step0 HB.out hb); clear hb)
      | (go_at_call 15; with_reducible refine Calls.mono (isRight_any ao n c b off l wc (H.out.1.below HB.out)) ?_; rintro e wc ⟨rfl, hb⟩; rw [HR.out]; replace HB := hid (step0 HB.out hb); clear hb))
    go_ret
    exact ⟨rfl, HB.out⟩
  rcases hR' : (fewB l' && refRightB l') with _ | _
  · have HR := hid (And.intro hR hR')
    clear hR hR' hln hln'
    go_enter Try.func7, Try.ntmps7
    go_wp2_with (first
      | (go_at_call 8; with_reducible refine Calls.mono (awake_any _) ?_; rintro e wc ⟨rfl, hb⟩; replace HB := hid (step0 HB.out hb); clear hb)
      | (go_at_call 15; with_reducible refine Calls.mono (isRight_any ao n c b off l wc (H.out.1.below HB.out)) ?_; rintro e wc ⟨rfl, hb⟩; rw [HR.out.1]; replace HB := hid (step0 HB.out hb); have D1 := hid trivial; clear hb)
      | (go_at_call 15; with_reducible refine Calls.mono (isRight_any ao' n' c' b' off' l' wc (H.out.2.below HB.out)) ?_; rintro e wc ⟨rfl, hb⟩; rw [HR.out.2]; replace HB := hid (step0 HB.out hb); clear hb))
    go_ret
    exact ⟨rfl, HB.out⟩
  have HR := hid (And.intro hR hR')
  obtain ⟨l20, rl, okl⟩ := of_few hR
  obtain ⟨l20', rl', okl'⟩ := of_few hR'
  have HJ := hid (And.intro (comb_sets fits_or rl rl') (comb_sets fits_cut rl reg_nil))
  have hN : l.length + l'.length ≤ 900000 := by omega
  have hN0 : l.length + ([] : List R).length ≤ 900000 := by simp only [List.length_nil]; omega
  have hN1 : l.length ≤ 100 := by omega
  have hn20 : n ≤ 20 := by omega
  have hn20' : n' ≤ 20 := by omega
  have HK := hid okl
  obtain ⟨i0, hi, hz0, hz1, hz2⟩ := info_parts info36
  have HI := hid (And.intro hi (And.intro hz0 (And.intro hz1 hz2)))
  have z0 : (-4398046511104 : Int) ≤ 0 ∧ (0 : Int) ≤ 4398046511104 := by omega
  have HZ := hid z0
  clear hR hR' rl rl' okl okl' hi hz0 hz1 hz2 hln hln' z0
  go_enter Try.func7, Try.ntmps7
  go_wp2_with (first
    | (go_at_call 8; with_reducible refine Calls.mono (awake_any _) ?_; rintro e wc ⟨rfl, hb⟩; replace HB := hid (step0 HB.out hb); clear hb)
    | (go_at_call 15; with_reducible refine Calls.mono (isRight_any ao n c b off l wc (H.out.1.below HB.out)) ?_; rintro e wc ⟨rfl, hb⟩; rw [HR.out.1]; replace HB := hid (step0 HB.out hb); clear hb)
    | (go_at_call 15; with_reducible refine Calls.mono (isRight_any ao' n' c' b' off' l' wc (H.out.2.below HB.out)) ?_; rintro e wc ⟨rfl, hb⟩; rw [HR.out.2]; replace HB := hid (step0 HB.out hb); clear hb)
    | (at_builtin; refine wpList_append_mine _ rfl (.tmp 26) (.tmp 27) 27 27 rfl (oz_nil 4 w.heap.size (wc.alloc (.cells #[] 36)) _) (HB.out.alloc HB.out.size _).size 36 i0 _ 32 Try.underlying27 HI.out.1 HI.out.2.1 HI.out.2.2.1 HI.out.2.2.2 rfl rfl _ n (flat l) rfl (srcV Try.underlying27 (H.out.1.below (HB.out.alloc HB.out.size _))) (by simp only [maxLen]; omega) (by omega) ?_; intro eo ec eb eoff w1 hO1 hB1 _ _; rw [Nat.zero_add, List.nil_append] at hO1; rw [Nat.zero_add]; have HO1 := hid hO1; replace HB := hid ((HB.out.alloc HB.out.size _).trans hB1); clear hO1 hB1)
    | (at_builtin; refine wpList_append_mine _ rfl (.tmp 29) (.tmp 30) 27 27 rfl (oz_nil 4 (w1.alloc (.cells #[] 36)).heap.size (w1.alloc (.cells #[] 36)) _) (Nat.le_refl _) 36 i0 _ 32 Try.underlying27 HI.out.1 HI.out.2.1 HI.out.2.2.1 HI.out.2.2.2 rfl rfl _ n' (flat l') rfl (srcV Try.underlying27 (H.out.2.below (HB.out.alloc HB.out.size _))) (by simp only [maxLen]; omega) (by omega) ?_; intro fo fc fb foff w2 hO2 hB2 _ _; rw [Nat.zero_add, List.nil_append] at hO2; rw [Nat.zero_add]; replace HB := hid (step1 HB.out hB2); have HV := hid (And.intro (H.out.1.below HB.out) (And.intro (H.out.2.below HB.out) (And.intro (ow1 HO1.out hB2).v hO2.v))); clear hO2 hB2 HO1)
    | (go_at_call 16; with_reducible refine Calls.mono (join_any w2 ao n c b off l ao' n' c' b' off' l' HV.out.1 HV.out.2.1 hN _ HJ.out.1) ?_; rintro e w3 ⟨hr, hb⟩; obtain ⟨jo, jn, jc, jb, joff, rfl, hO⟩ := retO hr; have HJ1 := hid (And.intro hb hO); clear hb hr hO)
    | (go_at_call 19; with_reducible refine Calls.mono (cut_any w3 ao n c b off l none 0 0 0 0 [] (HV.out.1.below HJ1.out.1) (vw_nil _ _) hN0 _ HJ.out.2) ?_; rintro e w4 ⟨hr, hb⟩; obtain ⟨co, cn, cc, cb, coff, rfl, hO⟩ := retO hr; have HC1 := hid (And.intro hb hO); clear hb hr hO)
    | (go_at_call 21; with_reducible refine Calls.mono (move_any w4 ao n c b off l 0 0 (HV.out.1.below (step0 HJ1.out.1 HC1.out.1)) hN1 HK.out HZ.out HZ.out) ?_; rintro e w5 ⟨hr, hb⟩; obtain ⟨mo, mn, mc, mb, moff, rfl, hO⟩ := retO hr; have HT := hid (three_of HJ1.out.1 HJ1.out.2 HC1.out.1 HC1.out.2 hb hO); clear hb hr hO HJ1 HC1))
  have hj := HT.out.small
  go_loopg [10] jn (fun g vi wr => ∃ k : Nat, k ≤ jn ∧ g = jn - k ∧ vi = .int .i64 k ∧ Three w2 wr jo jn jc jb joff co cn cc cb coff mo mn mc mb moff)
  case atStart => exact ⟨0, Nat.zero_le _, rfl, rfl, HT.out⟩
  case round =>
    clear HT
    obtain ⟨k, hk, rfl, rfl, hT⟩ := hrel
    by_cases hlt : k < jn
    · have hlz : (k : Int) < (jn : Int) := by omega
      have HT := hid (hT.set hlt ⟨0, 0, 0, 0⟩)
      obtain ⟨rfl, r, g0, g1, g2, g3, f0, f1, f2, f3⟩ := hT.four hlt
      clear hT
      go_wp2
      go_roundg (jn - (k + 1))
      case measure => omega
      case rel => exact ⟨k + 1, hlt, rfl, by simp, HT.out⟩
    · obtain rfl : jn = k := by omega
      have HT := hid hT.turn
      clear hT
      go_wp2
      have hc := HT.out.small
      go_loopg [11] cn (fun g vi wr => ∃ k : Nat, k ≤ cn ∧ g = cn - k ∧ vi = .int .i64 k ∧ Three w2 wr co cn cc cb coff mo mn mc mb moff jo jn jc jb joff)
      case atStart => exact ⟨0, Nat.zero_le _, rfl, rfl, HT.out⟩
      case round =>
        clear HT
        obtain ⟨k, hk, rfl, rfl, hT⟩ := hrel
        by_cases hlt : k < cn
        · have hlz : (k : Int) < (cn : Int) := by omega
          have HT := hid (hT.set hlt ⟨0, 0, 0, 0⟩)
          obtain ⟨rfl, r, g0, g1, g2, g3, f0, f1, f2, f3⟩ := hT.four hlt
          clear hT
          go_wp2
          go_roundg (cn - (k + 1))
          case measure => omega
          case rel => exact ⟨k + 1, hlt, rfl, by simp, HT.out⟩
        · obtain rfl : cn = k := by omega
          have HT := hid hT.turn
          clear hT
          go_wp2
          have hm := HT.out.small
          go_loopg [12] mn (fun g vi wr => ∃ k : Nat, k ≤ mn ∧ g = mn - k ∧ vi = .int .i64 k ∧ Three w2 wr mo mn mc mb moff jo jn jc jb joff co cn cc cb coff)
          case atStart => exact ⟨0, Nat.zero_le _, rfl, rfl, HT.out⟩
          case round =>
            clear HT
            obtain ⟨k, hk, rfl, rfl, hT⟩ := hrel
            by_cases hlt : k < mn
            · have hlz : (k : Int) < (mn : Int) := by omega
              have HT := hid (hT.set hlt ⟨0, 0, 0, 0⟩)
              obtain ⟨rfl, r, g0, g1, g2, g3, f0, f1, f2, f3⟩ := hT.four hlt
              clear hT
              go_wp2
              go_roundg (mn - (k + 1))
              case measure => omega
              case rel => exact ⟨k + 1, hlt, rfl, by simp, HT.out⟩
            · obtain rfl : mn = k := by omega
              have HT := hid hT.turn
              clear hT
              have HB5 := hid (step0 HB.out HT.out.below)
              go_wp2_with (first
                | (go_at_call 11; with_reducible refine Calls.mono (same_any ao n c b off l eo n ec eb eoff l wr (HV.out.1.below HT.out.below) (HV.out.2.2.1.below HT.out.below)) ?_; rintro e w6 ⟨rfl, hb⟩; rw [decide_eq_true rfl]; have HB6 := hid (step0 HT.out.below hb); clear hb)
                | (go_at_call 11; with_reducible refine Calls.mono (same_any ao' n' c' b' off' l' fo n' fc fb foff l' w6 (HV.out.2.1.below HB6.out) (HV.out.2.2.2.below HB6.out)) ?_; rintro e w7 ⟨rfl, hb⟩; rw [decide_eq_true rfl]; have HB7 := hid (step0 HB6.out hb); clear hb))
              go_ret
              exact ⟨rfl, step0 HB.out HB7.out⟩

theorem own : ownKnob Try.prog.godebug = none := by kernel_rfl

set_option maxRecDepth 100000 in
theorem lifted (os : Os) (started : os.Started) (H : Type) (enc : TypeId × Value → H) :
    ReturnsInHanded {} Try.checked os 7 .any (Rows.regionKeepsSpec.pre6 enc Try.prog Try.f7 Rows.regionKeepsRow.domain false) (Rows.regionKeepsSpec.post enc Try.prog Try.f7 false true false false) := by
  refine returnsInHanded_of_change (C := Try.checked) own started (by kernel_rfl) Try.func7
    (ChangeSpec.witness6 (enc := enc) (C := Try.checked) false ⟨#[], #[.slice none 0 0, .slice none 0 0], []⟩ 8 (by kernel_rfl) (by kernel_rfl) (by kernel_rfl) (by kernel_rfl)) ?_
  intro W base args ds gs before hval0 hW hcnd _
  have hval : ∀ (j : Nat) t v, Try.f7.params[j]? = some t → args[j]? = some v → Value.okWide Try.prog W .any base t v := hval0
  have hW' := hW
  obtain ⟨p, q, hA0, hV, rfl, hfz, hnd⟩ := hW
  have hA : DataW.TrodAll enc Try.prog W 0 (fun _ => true) true Try.f7.params.toList args.toList ds p := hA0
  rw [Try.params7] at hA hval
  obtain ⟨v0, vs0, d0, ds0, p0, q0, hargs, rfl, rfl, h0, r0⟩ := trodAll_cons hA
  obtain ⟨v1, vs1, d1, ds1, p1, q1, rfl, rfl, rfl, h1, r1⟩ := trodAll_cons r0
  obtain ⟨rfl, rfl, rfl⟩ := trodAll_nil r1
  obtain rfl : args = #[v0, v1] := by cases args; simp_all
  obtain ⟨rfl, rfl⟩ := trodVars_none hV
  obtain ⟨ao, n, c, b, off, l, rfl, hv⟩ := open_rects Try.underlying27 (hval 0 27 v0 rfl rfl) h0
  obtain ⟨ao', n', c', b', off', l', rfl, hv'⟩ := open_rects Try.underlying27 (hval 1 27 v1 rfl rfl) h1
  clear hA0 hval0
  simp only [List.append_nil] at hW'
  have hlt : ∀ x ∈ p0 ++ p1, x.block < W.heap.size := fun x hx => by simpa using hW'.lt x (by simpa using hx)
  refine (walk ao n c b off l ao' n' c' b' off' l' W hv hv').mono fun e W' ⟨he, hg⟩ => ?_
  subst he
  have t0 := Below.trod laidOut (by kernel_rfl) (of_decide_eq_true (by kernel_rfl)) h0 hg (fun x hx => hlt x (List.mem_append_left _ hx))
  have t1 := Below.trod laidOut (by kernel_rfl) (of_decide_eq_true (by kernel_rfl)) h1 hg (fun x hx => hlt x (List.mem_append_right _ hx))
  exact ⟨_, rfl, ⟨_, _, _, _, _, _, hW', (trodAll_cons_mk (shut_bool Try.underlying4 _) trodAll_mk0), (trodAll_cons_mk t0 (trodAll_cons_mk t1 trodAll_mk0)), rfl, hg.frame _, fun h => by cases h⟩⟩

theorem over : Rows.regionKeepsRow.holds Try.pinned (OpenSpec.ofChange Rows.regionKeepsSpec) :=
  OpenClaim.holds_of_wide 7 Try.f7 rfl rfl rfl rfl rfl rfl rfl ⟨rfl, rfl, rfl, rfl, rfl⟩ rfl rfl rfl rfl rfl (by kernel_rfl) Try.func7 (by kernel_rfl)
    (of_decide_eq_true (by kernel_rfl)) (by unfold Func.isWrapper; first | (rw [if_pos (by decide +kernel)]; kernel_rfl) | (rw [if_neg (by decide +kernel)]; exact ⟨rfl, rfl⟩))
    (fun os started H enc _ => lifted os started H enc)

theorem proved : Rows.RegionKeepsSaid := over
#print axioms proved
end Go.Proofs.Ytlakklpnajgjiaa.regionKeeps
