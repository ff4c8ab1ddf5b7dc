/- What two regions have in common and what each has alone make both joined, areas add up, cutting twice is cutting by both; no condition. -/
import Derived.Test.YtlakklpnajgjiaaRows
import Derived.WalkKit
import Derived.ProofKit
import Derived.OpenShut
import Derived.Test.YtlakklpnajgjiaaOpen
import Derived.Test.YtlakklpnajgjiaaAreaNum
import Derived.Test.YtlakklpnajgjiaaThree
namespace Go.Proofs.Ytlakklpnajgjiaa.regionLaws
open Go.ChangeShapes Go.WideShapes Go.ChangeAt Go.RowKit Num
set_option linter.unusedVariables false
set_option linter.unusedSimpArgs false

theorem of_few {l : List R} (h : (fewB l && refRightB l) = true) : l.length ≤ 20 ∧ Reg l ∧ ∀ r ∈ l, Ok r := by
  rw [Bool.and_eq_true] at h
  have h1 := h.1
  unfold fewB at h1
  rw [Bool.and_eq_true] at h1
  exact ⟨of_decide_eq_true h1.1, of_refRight h.2⟩

theorem vw_zero {w : World} {ao : Option Addr} {n c b off : Nat} (h : Vw w ao n c b off []) : 0 = n := vw_len h
/-- the laws, of lists -/
structure Laws (a b c : List R) : Prop where
  m : comb andF a b = some (setsL andF a b)
  o : comb cutF a b = some (setsL cutF a b)
  j : comb orF a b = some (setsL orF a b)
  mo : comb orF (setsL andF a b) (setsL cutF a b) = some a
  bo : comb orF b (setsL cutF a b) = some (setsL orF a b)
  oc : comb cutF (setsL cutF a b) c = some (setsL cutF (setsL cutF a b) c)
  bc : comb orF b c = some (setsL orF b c)
  abc : comb cutF a (setsL orF b c) = some (setsL cutF (setsL cutF a b) c)
  ob : comb andF (setsL cutF a b) b = some []
  ba : comb andF b a = some (setsL andF a b)
  n1 : a.length + b.length ≤ 900000
  n2 : (setsL andF a b).length + (setsL cutF a b).length ≤ 900000
  n3 : b.length + (setsL cutF a b).length ≤ 900000
  n4 : (setsL cutF a b).length + c.length ≤ 900000
  n5 : b.length + c.length ≤ 900000
  n6 : a.length + (setsL orF b c).length ≤ 900000
  n7 : (setsL cutF a b).length + b.length ≤ 900000
  n8 : b.length + a.length ≤ 900000
  om : ∀ r ∈ setsL andF a b, Ok r
  oo : ∀ r ∈ setsL cutF a b, Ok r
  oj : ∀ r ∈ setsL orF a b, Ok r
theorem laws_of {a b c : List R} (ha : a.length ≤ 20 ∧ Reg a ∧ ∀ r ∈ a, Ok r) (hb : b.length ≤ 20 ∧ Reg b ∧ ∀ r ∈ b, Ok r) (hc : c.length ≤ 20 ∧ Reg c ∧ ∀ r ∈ c, Ok r) : Laws a b c := by
  obtain ⟨la, ra, oa⟩ := ha
  obtain ⟨lb, rb, ob⟩ := hb
  obtain ⟨lc, rc, oc⟩ := hc
  have M := reg_sets fits_and oa ob
  have O := reg_sets fits_cut oa ob
  have J := reg_sets fits_or oa ob
  have K := reg_sets fits_or ob oc
  have lM := sets_len andF a b (N := 40) (by omega)
  have lO := sets_len cutF a b (N := 40) (by omega)
  have lK := sets_len orF b c (N := 40) (by omega)
  have w : ∀ (f : Bool → Bool → Bool) (p q : List R) (x z : Int), wantL f p q x z = f (hasL p x z) (hasL q x z) := fun _ _ _ _ _ => rfl
  refine ⟨comb_sets fits_and ra rb, comb_sets fits_cut ra rb, comb_sets fits_or ra rb, ?_, ?_, comb_sets fits_cut O.1 rc, comb_sets fits_or rb rc, ?_, ?_, ?_, by omega, by omega, by omega, by omega, by omega, by omega, by omega, by omega, M.2, O.2, J.2⟩
  · rw [comb_sets fits_or M.1 O.1, sets_reg fits_or ra fun x z => ?_]
    rw [w, has_sets fits_and, has_sets fits_cut, w, w]
    unfold andF cutF orF
    cases hasL a x z <;> cases hasL b x z <;> rfl
  · rw [comb_sets fits_or rb O.1, sets_ext fits_or fits_or fun x z => ?_]
    rw [w, w, has_sets fits_cut, w]
    unfold cutF orF
    cases hasL a x z <;> cases hasL b x z <;> rfl
  · rw [comb_sets fits_cut ra K.1, sets_ext fits_cut fits_cut fun x z => ?_]
    rw [w, w, has_sets fits_cut, has_sets fits_or, w, w]
    unfold cutF orF
    cases hasL a x z <;> cases hasL b x z <;> cases hasL c x z <;> rfl
  · rw [comb_sets fits_and O.1 rb, sets_reg fits_and reg_nil fun x z => ?_]
    rw [w, has_sets fits_cut, w]
    unfold cutF andF
    cases hasL a x z <;> cases hasL b x z <;> rfl
  · rw [comb_sets fits_and rb ra, sets_ext fits_and fits_and fun x z => ?_]
    rw [w, w]
    unfold andF
    cases hasL a x z <;> cases hasL b x z <;> rfl

set_option maxRecDepth 100000 in
set_option maxHeartbeats 8000000 in
theorem walk (ao : Option Addr) (n c b off : Nat) (l : List R) (ao' : Option Addr) (n' c' b' off' : Nat) (l' : List R) (ao'' : Option Addr) (n'' c'' b'' off'' : Nat) (l'' : List R) (w : World) (h : Vw w ao n c b off l) (h' : Vw w ao' n' c' b' off' l') (h'' : Vw w ao'' n'' c'' b'' off'' l'') :
    Calls Try.prog 6 #[.slice ao n c, .slice ao' n' c', .slice ao'' n'' c''] w fun e w' => e = .returned (.bool true) ∧ Below w.heap.size w w' := by
  have H := hid (And.intro h (And.intro h' h''))
  have HB := hid (Below.refl w.heap.size w)
  clear h h' h''
  rcases hR : (fewB l && refRightB l) with _ | _
  · have HR := hid hR
    clear hR
    go_enter Try.func6, Try.ntmps6
    go_wp2_with (first
      | (go_at_call 8; with_reducible refine Calls.mono (awake_any _) ?_; rintro e wc ⟨rfl, hb⟩; replace HB := hid (step0 HB.out hb); clear hb)
      | (go_at_call 15; with_reducible refine Calls.mono (isRight_any ao n c b off l wc (H.out.1.below HB.out)) ?_; rintro e wc ⟨rfl, hb⟩; rw [HR.out]; replace HB := hid (step0 HB.out hb); clear hb))
    go_ret
    exact ⟨rfl, HB.out⟩
  rcases hR' : (fewB l' && refRightB l') with _ | _
  · have HR := hid (And.intro hR hR')
    clear hR hR'
    go_enter Try.func6, Try.ntmps6
    go_wp2_with (first
      | (go_at_call 8; with_reducible refine Calls.mono (awake_any _) ?_; rintro e wc ⟨rfl, hb⟩; replace HB := hid (step0 HB.out hb); clear hb)
      | (go_at_call 15; with_reducible refine Calls.mono (isRight_any ao n c b off l wc (H.out.1.below HB.out)) ?_; rintro e wc ⟨rfl, hb⟩; rw [HR.out.1]; replace HB := hid (step0 HB.out hb); clear hb)
      | (go_at_call 15; with_reducible refine Calls.mono (isRight_any ao' n' c' b' off' l' wc (H.out.2.1.below HB.out)) ?_; rintro e wc ⟨rfl, hb⟩; rw [HR.out.2]; replace HB := hid (step0 HB.out hb); clear hb))
    go_ret
    exact ⟨rfl, HB.out⟩
  rcases hR'' : (fewB l'' && refRightB l'') with _ | _
  · have HR := hid (And.intro hR (And.intro hR' hR''))
    clear hR hR' hR''
    go_enter Try.func6, Try.ntmps6
    go_wp2_with (first
      | (go_at_call 8; with_reducible refine Calls.mono (awake_any _) ?_; rintro e wc ⟨rfl, hb⟩; replace HB := hid (step0 HB.out hb); clear hb)
      | (go_at_call 15; with_reducible refine Calls.mono (isRight_any ao n c b off l wc (H.out.1.below HB.out)) ?_; rintro e wc ⟨rfl, hb⟩; rw [HR.out.1]; replace HB := hid (step0 HB.out hb); clear hb)
      | (go_at_call 15; with_reducible refine Calls.mono (isRight_any ao' n' c' b' off' l' wc (H.out.2.1.below HB.out)) ?_; rintro e wc ⟨rfl, hb⟩; rw [HR.out.2.1]; replace HB := hid (step0 HB.out hb); clear hb)
      | (go_at_call 15; with_reducible refine Calls.mono (isRight_any ao'' n'' c'' b'' off'' l'' wc (H.out.2.2.below HB.out)) ?_; rintro e wc ⟨rfl, hb⟩; rw [HR.out.2.2]; replace HB := hid (step0 HB.out hb); clear hb))
    go_ret
    exact ⟨rfl, HB.out⟩
  have HR := hid (And.intro hR (And.intro hR' hR''))
  have HL := hid (laws_of (of_few hR) (of_few hR') (of_few hR''))
  have HA := hid (And.intro (of_few hR).2.2 (of_few hR').2.2)
  have HAd := hid (areas_add (of_few hR).2.1 (of_few hR').2.1 (of_few hR).2.2 (of_few hR').2.2)
  clear hR hR' hR''
  obtain ⟨sa, hsa⟩ : ∃ s, s = areaF l := ⟨_, rfl⟩
  obtain ⟨sb, hsb⟩ : ∃ s, s = areaF l' := ⟨_, rfl⟩
  obtain ⟨sm, hsm⟩ : ∃ s, s = areaF (setsL andF l l') := ⟨_, rfl⟩
  obtain ⟨so, hso⟩ : ∃ s, s = areaF (setsL cutF l l') := ⟨_, rfl⟩
  obtain ⟨sj, hsj⟩ : ∃ s, s = areaF (setsL orF l l') := ⟨_, rfl⟩
  have HS := hid (And.intro hsa.symm (And.intro hsb.symm (And.intro hsm.symm (And.intro hso.symm hsj.symm))))
  have ba : 0 ≤ sa ∧ sa ≤ 2305843009213693952 := by rw [hsa]; exact areaF_le _
  have bb : 0 ≤ sb ∧ sb ≤ 2305843009213693952 := by rw [hsb]; exact areaF_le _
  have bm : 0 ≤ sm ∧ sm ≤ 2305843009213693952 := by rw [hsm]; exact areaF_le _
  have bo : 0 ≤ so ∧ so ≤ 2305843009213693952 := by rw [hso]; exact areaF_le _
  have bj : 0 ≤ sj ∧ sj ≤ 2305843009213693952 := by rw [hsj]; exact areaF_le _
  have HD := hid (show sj < 1152921504606846976 → sm + so = sa ∧ sj + sm = sa + sb by rw [hsa, hsb, hsm, hso, hsj]; exact HAd.out)
  clear hsa hsb hsm hso hsj HAd
  obtain ⟨ba0, ba1⟩ := ba
  obtain ⟨bb0, bb1⟩ := bb
  obtain ⟨bm0, bm1⟩ := bm
  obtain ⟨bo0, bo1⟩ := bo
  obtain ⟨bj0, bj1⟩ := bj
  by_cases hj : sj < 1152921504606846976
  · have q1 : (sm + so != sa) = false := by rw [(HD.out hj).1]; simp
    have q2 : (sj + sm != sa + sb) = false := by rw [(HD.out hj).2]; simp
    go_enter Try.func6, Try.ntmps6
    go_wp2_with (first
      | (go_at_call 8; with_reducible refine Calls.mono (awake_any _) ?_; rintro e wc ⟨rfl, hb⟩; replace HB := hid (step0 HB.out hb); clear hb)
      | (go_at_call 15; with_reducible refine Calls.mono (isRight_any ao n c b off l wc (H.out.1.below HB.out)) ?_; rintro e wc ⟨rfl, hb⟩; rw [HR.out.1]; replace HB := hid (step0 HB.out hb); clear hb)
      | (go_at_call 15; with_reducible refine Calls.mono (isRight_any ao' n' c' b' off' l' wc (H.out.2.1.below HB.out)) ?_; rintro e wc ⟨rfl, hb⟩; rw [HR.out.2.1]; replace HB := hid (step0 HB.out hb); clear hb)
      | (go_at_call 15; with_reducible refine Calls.mono (isRight_any ao'' n'' c'' b'' off'' l'' wc (H.out.2.2.below HB.out)) ?_; rintro e wc ⟨rfl, hb⟩; rw [HR.out.2.2]; replace HB := hid (step0 HB.out hb); clear hb)
      | (go_at_call 18; with_reducible refine Calls.mono (meet_any wc ao n c b off l ao' n' c' b' off' l' (H.out.1.below HB.out) (H.out.2.1.below HB.out) HL.out.n1 _ HL.out.m) ?_; rintro e wc ⟨hr, hb⟩; obtain ⟨mo, mn, mc, mb, moff, rfl, hO⟩ := retO hr; have HM := hid hO; replace HB := hid (step0 HB.out hb); clear hb hr hO)
      | (go_at_call 19; with_reducible refine Calls.mono (cut_any wc ao n c b off l ao' n' c' b' off' l' (H.out.1.below HB.out) (H.out.2.1.below HB.out) HL.out.n1 _ HL.out.o) ?_; rintro e wc ⟨hr, hb⟩; obtain ⟨oo, on, oc, ob, ooff, rfl, hO⟩ := retO hr; replace HM := hid (HM.out.below hb); have HO := hid hO; replace HB := hid (step0 HB.out hb); clear hb hr hO)
      | (go_at_call 16; with_reducible refine Calls.mono (join_any wc ao n c b off l ao' n' c' b' off' l' (H.out.1.below HB.out) (H.out.2.1.below HB.out) HL.out.n1 _ HL.out.j) ?_; rintro e wc ⟨hr, hb⟩; obtain ⟨jo, jn, jc, jb, joff, rfl, hO⟩ := retO hr; replace HM := hid (HM.out.below hb); replace HO := hid (HO.out.below hb); have HJ := hid hO; replace HB := hid (step0 HB.out hb); clear hb hr hO)
      | (go_at_call 16; with_reducible refine Calls.mono (join_any wc mo mn mc mb moff (setsL andF l l') oo on oc ob ooff (setsL cutF l l') HM.out.v HO.out.v HL.out.n2 _ HL.out.mo) ?_; rintro e wc ⟨hr, hb⟩; obtain ⟨uo, un, uc, ub, uoff, rfl, hO⟩ := retO hr; replace HM := hid (HM.out.below hb); replace HO := hid (HO.out.below hb); replace HJ := hid (HJ.out.below hb); have HU := hid hO; replace HB := hid (step0 HB.out hb); clear hb hr hO)
      | (go_at_call 11; with_reducible refine Calls.mono (same_any uo un uc ub uoff _ ao n c b off _ wc HU.out.v (H.out.1.below HB.out)) ?_; rintro e wc ⟨rfl, hb⟩; rw [decide_eq_true rfl]; replace HM := hid (HM.out.below hb); replace HO := hid (HO.out.below hb); replace HJ := hid (HJ.out.below hb); replace HB := hid (step0 HB.out hb); clear hb HU)
      | (go_at_call 16; with_reducible refine Calls.mono (join_any wc ao' n' c' b' off' l' oo on oc ob ooff (setsL cutF l l') (H.out.2.1.below HB.out) HO.out.v HL.out.n3 _ HL.out.bo) ?_; rintro e wc ⟨hr, hb⟩; obtain ⟨to, tn, tc, tb, toff, rfl, hO⟩ := retO hr; replace HM := hid (HM.out.below hb); replace HO := hid (HO.out.below hb); replace HJ := hid (HJ.out.below hb); have HT := hid hO; replace HB := hid (step0 HB.out hb); clear hb hr hO)
      | (go_at_call 11; with_reducible refine Calls.mono (same_any jo jn jc jb joff _ to tn tc tb toff _ wc HJ.out.v HT.out.v) ?_; rintro e wc ⟨rfl, hb⟩; rw [decide_eq_true rfl]; replace HM := hid (HM.out.below hb); replace HO := hid (HO.out.below hb); replace HJ := hid (HJ.out.below hb); replace HB := hid (step0 HB.out hb); clear hb HT)
      | (go_at_call 27; with_reducible refine Calls.mono (area_any wc jo jn jc jb joff (setsL orF l l') HJ.out.v HL.out.oj) ?_; rintro e wc ⟨rfl, hb⟩; rw [HS.out.2.2.2.2]; replace HM := hid (HM.out.below hb); replace HO := hid (HO.out.below hb); replace HJ := hid (HJ.out.below hb); replace HB := hid (step0 HB.out hb); clear hb)
      | (go_at_call 27; with_reducible refine Calls.mono (area_any wc mo mn mc mb moff (setsL andF l l') HM.out.v HL.out.om) ?_; rintro e wc ⟨rfl, hb⟩; rw [HS.out.2.2.1]; replace HM := hid (HM.out.below hb); replace HO := hid (HO.out.below hb); replace HJ := hid (HJ.out.below hb); replace HB := hid (step0 HB.out hb); clear hb)
      | (go_at_call 27; with_reducible refine Calls.mono (area_any wc oo on oc ob ooff (setsL cutF l l') HO.out.v HL.out.oo) ?_; rintro e wc ⟨rfl, hb⟩; rw [HS.out.2.2.2.1]; replace HM := hid (HM.out.below hb); replace HO := hid (HO.out.below hb); replace HJ := hid (HJ.out.below hb); replace HB := hid (step0 HB.out hb); clear hb)
      | (go_at_call 27; with_reducible refine Calls.mono (area_any wc ao n c b off l (H.out.1.below HB.out) HA.out.1) ?_; rintro e wc ⟨rfl, hb⟩; rw [HS.out.1]; replace HM := hid (HM.out.below hb); replace HO := hid (HO.out.below hb); replace HJ := hid (HJ.out.below hb); replace HB := hid (step0 HB.out hb); clear hb)
      | (go_at_call 27; with_reducible refine Calls.mono (area_any wc ao' n' c' b' off' l' (H.out.2.1.below HB.out) HA.out.2) ?_; rintro e wc ⟨rfl, hb⟩; rw [HS.out.2.1]; replace HM := hid (HM.out.below hb); replace HO := hid (HO.out.below hb); replace HJ := hid (HJ.out.below hb); replace HB := hid (step0 HB.out hb); clear hb)
      | (go_at_call 19; with_reducible refine Calls.mono (cut_any wc oo on oc ob ooff (setsL cutF l l') ao'' n'' c'' b'' off'' l'' HO.out.v (H.out.2.2.below HB.out) HL.out.n4 _ HL.out.oc) ?_; rintro e wc ⟨hr, hb⟩; obtain ⟨uo, un, uc, ub, uoff, rfl, hO⟩ := retO hr; replace HO := hid (HO.out.below hb); have HU := hid hO; replace HB := hid (step0 HB.out hb); clear hb hr hO)
      | (go_at_call 16; with_reducible refine Calls.mono (join_any wc ao' n' c' b' off' l' ao'' n'' c'' b'' off'' l'' (H.out.2.1.below HB.out) (H.out.2.2.below HB.out) HL.out.n5 _ HL.out.bc) ?_; rintro e wc ⟨hr, hb⟩; obtain ⟨to, tn, tc, tb, toff, rfl, hO⟩ := retO hr; replace HO := hid (HO.out.below hb); replace HU := hid (HU.out.below hb); have HT := hid hO; replace HB := hid (step0 HB.out hb); clear hb hr hO)
      | (go_at_call 19; with_reducible refine Calls.mono (cut_any wc ao n c b off l to tn tc tb toff (setsL orF l' l'') (H.out.1.below HB.out) HT.out.v HL.out.n6 _ HL.out.abc) ?_; rintro e wc ⟨hr, hb⟩; obtain ⟨xo, xn, xc, xb, xoff, rfl, hO⟩ := retO hr; replace HO := hid (HO.out.below hb); replace HU := hid (HU.out.below hb); have HX := hid hO; replace HB := hid (step0 HB.out hb); clear hb hr hO)
      | (go_at_call 11; with_reducible refine Calls.mono (same_any uo un uc ub uoff _ xo xn xc xb xoff _ wc HU.out.v HX.out.v) ?_; rintro e wc ⟨rfl, hb⟩; rw [decide_eq_true rfl]; replace HO := hid (HO.out.below hb); replace HB := hid (step0 HB.out hb); clear hb HU HT HX)
      | (go_at_call 18; with_reducible refine Calls.mono (meet_any wc oo on oc ob ooff (setsL cutF l l') ao' n' c' b' off' l' HO.out.v (H.out.2.1.below HB.out) HL.out.n7 _ HL.out.ob) ?_; rintro e wc ⟨hr, hb⟩; obtain ⟨yo, yn, yc, yb, yoff, rfl, hO⟩ := retO hr; obtain rfl := vw_zero hO.v; have HY := hid hO; replace HB := hid (step0 HB.out hb); clear hb hr hO)
      | (go_at_call 18; with_reducible refine Calls.mono (meet_any wc ao' n' c' b' off' l' ao n c b off l (H.out.2.1.below HB.out) (H.out.1.below HB.out) HL.out.n8 _ HL.out.ba) ?_; rintro e wc ⟨hr, hb⟩; obtain ⟨ko, kn, kc, kb, koff, rfl, hO⟩ := retO hr; replace HM := hid (HM.out.below hb); have HK := hid hO; replace HB := hid (step0 HB.out hb); clear hb hr hO)
      | (go_at_call 11; with_reducible refine Calls.mono (same_any mo mn mc mb moff _ ko kn kc kb koff _ wc HM.out.v HK.out.v) ?_; rintro e wc ⟨rfl, hb⟩; rw [decide_eq_true rfl]; replace HB := hid (step0 HB.out hb); clear hb HM HK))
    go_ret
    exact ⟨rfl, HB.out⟩
  · go_enter Try.func6, Try.ntmps6
    go_wp2_with (first
      | (go_at_call 8; with_reducible refine Calls.mono (awake_any _) ?_; rintro e wc ⟨rfl, hb⟩; replace HB := hid (step0 HB.out hb); clear hb)
      | (go_at_call 15; with_reducible refine Calls.mono (isRight_any ao n c b off l wc (H.out.1.below HB.out)) ?_; rintro e wc ⟨rfl, hb⟩; rw [HR.out.1]; replace HB := hid (step0 HB.out hb); clear hb)
      | (go_at_call 15; with_reducible refine Calls.mono (isRight_any ao' n' c' b' off' l' wc (H.out.2.1.below HB.out)) ?_; rintro e wc ⟨rfl, hb⟩; rw [HR.out.2.1]; replace HB := hid (step0 HB.out hb); clear hb)
      | (go_at_call 15; with_reducible refine Calls.mono (isRight_any ao'' n'' c'' b'' off'' l'' wc (H.out.2.2.below HB.out)) ?_; rintro e wc ⟨rfl, hb⟩; rw [HR.out.2.2]; replace HB := hid (step0 HB.out hb); clear hb)
      | (go_at_call 18; with_reducible refine Calls.mono (meet_any wc ao n c b off l ao' n' c' b' off' l' (H.out.1.below HB.out) (H.out.2.1.below HB.out) HL.out.n1 _ HL.out.m) ?_; rintro e wc ⟨hr, hb⟩; obtain ⟨mo, mn, mc, mb, moff, rfl, hO⟩ := retO hr; have HM := hid hO; replace HB := hid (step0 HB.out hb); clear hb hr hO)
      | (go_at_call 19; with_reducible refine Calls.mono (cut_any wc ao n c b off l ao' n' c' b' off' l' (H.out.1.below HB.out) (H.out.2.1.below HB.out) HL.out.n1 _ HL.out.o) ?_; rintro e wc ⟨hr, hb⟩; obtain ⟨oo, on, oc, ob, ooff, rfl, hO⟩ := retO hr; replace HM := hid (HM.out.below hb); have HO := hid hO; replace HB := hid (step0 HB.out hb); clear hb hr hO)
      | (go_at_call 16; with_reducible refine Calls.mono (join_any wc ao n c b off l ao' n' c' b' off' l' (H.out.1.below HB.out) (H.out.2.1.below HB.out) HL.out.n1 _ HL.out.j) ?_; rintro e wc ⟨hr, hb⟩; obtain ⟨jo, jn, jc, jb, joff, rfl, hO⟩ := retO hr; replace HM := hid (HM.out.below hb); replace HO := hid (HO.out.below hb); have HJ := hid hO; replace HB := hid (step0 HB.out hb); clear hb hr hO)
      | (go_at_call 16; with_reducible refine Calls.mono (join_any wc mo mn mc mb moff (setsL andF l l') oo on oc ob ooff (setsL cutF l l') HM.out.v HO.out.v HL.out.n2 _ HL.out.mo) ?_; rintro e wc ⟨hr, hb⟩; obtain ⟨uo, un, uc, ub, uoff, rfl, hO⟩ := retO hr; replace HM := hid (HM.out.below hb); replace HO := hid (HO.out.below hb); replace HJ := hid (HJ.out.below hb); have HU := hid hO; replace HB := hid (step0 HB.out hb); clear hb hr hO)
      | (go_at_call 11; with_reducible refine Calls.mono (same_any uo un uc ub uoff _ ao n c b off _ wc HU.out.v (H.out.1.below HB.out)) ?_; rintro e wc ⟨rfl, hb⟩; rw [decide_eq_true rfl]; replace HM := hid (HM.out.below hb); replace HO := hid (HO.out.below hb); replace HJ := hid (HJ.out.below hb); replace HB := hid (step0 HB.out hb); clear hb HU)
      | (go_at_call 16; with_reducible refine Calls.mono (join_any wc ao' n' c' b' off' l' oo on oc ob ooff (setsL cutF l l') (H.out.2.1.below HB.out) HO.out.v HL.out.n3 _ HL.out.bo) ?_; rintro e wc ⟨hr, hb⟩; obtain ⟨to, tn, tc, tb, toff, rfl, hO⟩ := retO hr; replace HM := hid (HM.out.below hb); replace HO := hid (HO.out.below hb); replace HJ := hid (HJ.out.below hb); have HT := hid hO; replace HB := hid (step0 HB.out hb); clear hb hr hO)
      | (go_at_call 11; with_reducible refine Calls.mono (same_any jo jn jc jb joff _ to tn tc tb toff _ wc HJ.out.v HT.out.v) ?_; rintro e wc ⟨rfl, hb⟩; rw [decide_eq_true rfl]; replace HM := hid (HM.out.below hb); replace HO := hid (HO.out.below hb); replace HJ := hid (HJ.out.below hb); replace HB := hid (step0 HB.out hb); clear hb HT)
      | (go_at_call 27; with_reducible refine Calls.mono (area_any wc jo jn jc jb joff (setsL orF l l') HJ.out.v HL.out.oj) ?_; rintro e wc ⟨rfl, hb⟩; rw [HS.out.2.2.2.2]; replace HM := hid (HM.out.below hb); replace HO := hid (HO.out.below hb); replace HJ := hid (HJ.out.below hb); replace HB := hid (step0 HB.out hb); clear hb)
      | (go_at_call 27; with_reducible refine Calls.mono (area_any wc mo mn mc mb moff (setsL andF l l') HM.out.v HL.out.om) ?_; rintro e wc ⟨rfl, hb⟩; rw [HS.out.2.2.1]; replace HM := hid (HM.out.below hb); replace HO := hid (HO.out.below hb); replace HJ := hid (HJ.out.below hb); replace HB := hid (step0 HB.out hb); clear hb)
      | (go_at_call 27; with_reducible refine Calls.mono (area_any wc oo on oc ob ooff (setsL cutF l l') HO.out.v HL.out.oo) ?_; rintro e wc ⟨rfl, hb⟩; rw [HS.out.2.2.2.1]; replace HM := hid (HM.out.below hb); replace HO := hid (HO.out.below hb); replace HJ := hid (HJ.out.below hb); replace HB := hid (step0 HB.out hb); clear hb)
      | (go_at_call 27; with_reducible refine Calls.mono (area_any wc ao n c b off l (H.out.1.below HB.out) HA.out.1) ?_; rintro e wc ⟨rfl, hb⟩; rw [HS.out.1]; replace HM := hid (HM.out.below hb); replace HO := hid (HO.out.below hb); replace HJ := hid (HJ.out.below hb); replace HB := hid (step0 HB.out hb); clear hb)
      | (go_at_call 27; with_reducible refine Calls.mono (area_any wc ao' n' c' b' off' l' (H.out.2.1.below HB.out) HA.out.2) ?_; rintro e wc ⟨rfl, hb⟩; rw [HS.out.2.1]; replace HM := hid (HM.out.below hb); replace HO := hid (HO.out.below hb); replace HJ := hid (HJ.out.below hb); replace HB := hid (step0 HB.out hb); clear hb)
      | (go_at_call 19; with_reducible refine Calls.mono (cut_any wc oo on oc ob ooff (setsL cutF l l') ao'' n'' c'' b'' off'' l'' HO.out.v (H.out.2.2.below HB.out) HL.out.n4 _ HL.out.oc) ?_; rintro e wc ⟨hr, hb⟩; obtain ⟨uo, un, uc, ub, uoff, rfl, hO⟩ := retO hr; replace HO := hid (HO.out.below hb); have HU := hid hO; replace HB := hid (step0 HB.out hb); clear hb hr hO)
      | (go_at_call 16; with_reducible refine Calls.mono (join_any wc ao' n' c' b' off' l' ao'' n'' c'' b'' off'' l'' (H.out.2.1.below HB.out) (H.out.2.2.below HB.out) HL.out.n5 _ HL.out.bc) ?_; rintro e wc ⟨hr, hb⟩; obtain ⟨to, tn, tc, tb, toff, rfl, hO⟩ := retO hr; replace HO := hid (HO.out.below hb); replace HU := hid (HU.out.below hb); have HT := hid hO; replace HB := hid (step0 HB.out hb); clear hb hr hO)
      | (go_at_call 19; with_reducible refine Calls.mono (cut_any wc ao n c b off l to tn tc tb toff (setsL orF l' l'') (H.out.1.below HB.out) HT.out.v HL.out.n6 _ HL.out.abc) ?_; rintro e wc ⟨hr, hb⟩; obtain ⟨xo, xn, xc, xb, xoff, rfl, hO⟩ := retO hr; replace HO := hid (HO.out.below hb); replace HU := hid (HU.out.below hb); have HX := hid hO; replace HB := hid (step0 HB.out hb); clear hb hr hO)
      | (go_at_call 11; with_reducible refine Calls.mono (same_any uo un uc ub uoff _ xo xn xc xb xoff _ wc HU.out.v HX.out.v) ?_; rintro e wc ⟨rfl, hb⟩; rw [decide_eq_true rfl]; replace HO := hid (HO.out.below hb); replace HB := hid (step0 HB.out hb); clear hb HU HT HX)
      | (go_at_call 18; with_reducible refine Calls.mono (meet_any wc oo on oc ob ooff (setsL cutF l l') ao' n' c' b' off' l' HO.out.v (H.out.2.1.below HB.out) HL.out.n7 _ HL.out.ob) ?_; rintro e wc ⟨hr, hb⟩; obtain ⟨yo, yn, yc, yb, yoff, rfl, hO⟩ := retO hr; obtain rfl := vw_zero hO.v; have HY := hid hO; replace HB := hid (step0 HB.out hb); clear hb hr hO)
      | (go_at_call 18; with_reducible refine Calls.mono (meet_any wc ao' n' c' b' off' l' ao n c b off l (H.out.2.1.below HB.out) (H.out.1.below HB.out) HL.out.n8 _ HL.out.ba) ?_; rintro e wc ⟨hr, hb⟩; obtain ⟨ko, kn, kc, kb, koff, rfl, hO⟩ := retO hr; replace HM := hid (HM.out.below hb); have HK := hid hO; replace HB := hid (step0 HB.out hb); clear hb hr hO)
      | (go_at_call 11; with_reducible refine Calls.mono (same_any mo mn mc mb moff _ ko kn kc kb koff _ wc HM.out.v HK.out.v) ?_; rintro e wc ⟨rfl, hb⟩; rw [decide_eq_true rfl]; replace HB := hid (step0 HB.out hb); clear hb HM HK))
    go_ret
    exact ⟨rfl, HB.out⟩

theorem own : ownKnob Try.prog.godebug = none := by kernel_rfl

set_option maxRecDepth 100000 in
theorem lifted (os : Os) (started : os.Started) (H : Type) (enc : TypeId × Value → H) :
    ReturnsInHanded {} Try.checked os 6 .any (Rows.regionLawsSpec.pre6 enc Try.prog Try.f6 Rows.regionLawsRow.domain false) (Rows.regionLawsSpec.post enc Try.prog Try.f6 false true false false) := by
  refine returnsInHanded_of_change (C := Try.checked) own started (by kernel_rfl) Try.func6
    (ChangeSpec.witness6 (enc := enc) (C := Try.checked) false ⟨#[], #[.slice none 0 0, .slice none 0 0, .slice none 0 0], []⟩ 8 (by kernel_rfl) (by kernel_rfl) (by kernel_rfl) (by kernel_rfl)) ?_
  intro W base args ds gs before hval0 hW hcnd _
  have hval : ∀ (j : Nat) t v, Try.f6.params[j]? = some t → args[j]? = some v → Value.okWide Try.prog W .any base t v := hval0
  have hW' := hW
  obtain ⟨p, q, hA0, hV, rfl, hfz, hnd⟩ := hW
  have hA : DataW.TrodAll enc Try.prog W 0 (fun _ => true) true Try.f6.params.toList args.toList ds p := hA0
  rw [Try.params6] at hA hval
  obtain ⟨v0, vs0, d0, ds0, p0, q0, hargs, rfl, rfl, h0, r0⟩ := trodAll_cons hA
  obtain ⟨v1, vs1, d1, ds1, p1, q1, rfl, rfl, rfl, h1, r1⟩ := trodAll_cons r0
  obtain ⟨v2, vs2, d2, ds2, p2, q2, rfl, rfl, rfl, h2, r2⟩ := trodAll_cons r1
  obtain ⟨rfl, rfl, rfl⟩ := trodAll_nil r2
  obtain rfl : args = #[v0, v1, v2] := by cases args; simp_all
  obtain ⟨rfl, rfl⟩ := trodVars_none hV
  obtain ⟨ao, n, c, b, off, l, rfl, hv⟩ := open_rects Try.underlying27 (hval 0 27 v0 rfl rfl) h0
  obtain ⟨ao', n', c', b', off', l', rfl, hv'⟩ := open_rects Try.underlying27 (hval 1 27 v1 rfl rfl) h1
  obtain ⟨ao'', n'', c'', b'', off'', l'', rfl, hv''⟩ := open_rects Try.underlying27 (hval 2 27 v2 rfl rfl) h2
  clear hA0 hval0
  simp only [List.append_nil] at hW'
  have hlt : ∀ x ∈ p0 ++ (p1 ++ p2), x.block < W.heap.size := fun x hx => by simpa using hW'.lt x (by simpa using hx)
  refine (walk ao n c b off l ao' n' c' b' off' l' ao'' n'' c'' b'' off'' l'' W hv hv' hv'').mono fun e W' ⟨he, hg⟩ => ?_
  subst he
  have t0 := Below.trod laidOut (by kernel_rfl) (of_decide_eq_true (by kernel_rfl)) h0 hg (fun x hx => hlt x (List.mem_append_left _ hx))
  have t1 := Below.trod laidOut (by kernel_rfl) (of_decide_eq_true (by kernel_rfl)) h1 hg (fun x hx => hlt x (List.mem_append_right _ (List.mem_append_left _ hx)))
  have t2 := Below.trod laidOut (by kernel_rfl) (of_decide_eq_true (by kernel_rfl)) h2 hg (fun x hx => hlt x (List.mem_append_right _ (List.mem_append_right _ hx)))
  exact ⟨_, rfl, ⟨_, _, _, _, _, _, hW', (trodAll_cons_mk (shut_bool Try.underlying4 _) trodAll_mk0), (trodAll_cons_mk t0 (trodAll_cons_mk t1 (trodAll_cons_mk t2 trodAll_mk0))), rfl, hg.frame _, fun h => by cases h⟩⟩

theorem over : Rows.regionLawsRow.holds Try.pinned (OpenSpec.ofChange Rows.regionLawsSpec) :=
  OpenClaim.holds_of_wide 6 Try.f6 rfl rfl rfl rfl rfl rfl rfl ⟨rfl, rfl, rfl, rfl, rfl⟩ rfl rfl rfl rfl rfl (by kernel_rfl) Try.func6 (by kernel_rfl)
    (of_decide_eq_true (by kernel_rfl)) (by unfold Func.isWrapper; first | (rw [if_pos (by decide +kernel)]; kernel_rfl) | (rw [if_neg (by decide +kernel)]; exact ⟨rfl, rfl⟩))
    (fun os started H enc _ => lifted os started H enc)

theorem proved : Rows.RegionLawsSaid := over
#print axioms proved
end Go.Proofs.Ytlakklpnajgjiaa.regionLaws
