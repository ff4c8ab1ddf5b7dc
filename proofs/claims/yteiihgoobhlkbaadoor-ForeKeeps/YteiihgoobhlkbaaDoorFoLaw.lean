/- A filter's reach; the law's own tests: contracts. -/
import Derived.Test.YteiihgoobhlkbaaDoorFoOvR
import Derived.Test.YteiihgoobhlkbaaDoorRgAwake
import Derived.Test.YteiihgoobhlkbaaDoorRefsA
namespace Go.Proofs.YteiihgoobhlkbaaDoor
open Num Go.RowKit
open Rg.Num (Pr Ok Inv Wi setsL orF cutF)
set_option linter.unusedVariables false
set_option linter.unusedSimpArgs false

set_option maxRecDepth 100000 in
set_option maxHeartbeats 1000000 in
theorem reachAll_any (ao : Option Addr) (n c b off : Nat) (L : List Nv) (out : Int) (s : RR) (w : World) (h : Vn w ao n c b off L) (hf : Few n L) (hs : Ok s) (hp : ∀ v, v ∈ L → Pr v.op (nth v.p)) (hop : ∀ v, v ∈ L → v.op = 1 ∨ v.op = 2) (hn6 : n ≤ 6) :
    Calls Tryd.prog 12 #[.agg #[.slice ao n c, .int .i64 out], .agg #[.int .i64 s.x0, .int .i64 s.y0, .int .i64 s.x1, .int .i64 s.y1]] w fun e w' => (∃ N, Nd (insL L) out N ∧ e = .returned (.agg #[.int .i64 (reachG L N out s).x0, .int .i64 (reachG L N out s).y0, .int .i64 (reachG L N out s).x1, .int .i64 (reachG L N out s).y1])) ∧ Below w.heap.size w w' := by
  obtain ⟨W, hW⟩ : ∃ W, W = ((w.alloc (.cells #[.slice ao n c, .int .i64 out] 24)).alloc (.cells #[.int .i64 s.x0, .int .i64 s.y0, .int .i64 s.x1, .int .i64 s.y1] 34)).alloc (.cells #[.int .i64 0, .int .i64 0, .int .i64 0, .int .i64 0] 34) := ⟨_, rfl⟩
  have hB : Below w.heap.size w W := by rw [hW]; exact (((Below.refl _ _).alloc (Nat.le_refl _) _).alloc (by simp) _).alloc (by go_size) _
  have hz : Rg.Rc.Has4 W (w.heap.size + 1 + 1) (.int .i64 0) (.int .i64 0) (.int .i64 0) (.int .i64 0) := by rw [hW]; exact Rg.Rc.Has4.new (by simp) _ _ _ _ _
  have C := overR_any ao n c b off L out s W (h.below hB) hf hs hp hop hn6
  rw [hW] at C hB hz
  have HC := hid (And.intro C (And.intro hB hz))
  clear C hB hz hW h hf hs hp hop
  clear W
  go_enter Tryd.func12, Tryd.ntmps12
  go_wp2_with (go_at_call 22; with_reducible refine Calls.mono HC.out.1 ?_; rintro e w1 ⟨⟨N, hN, rfl⟩, hb⟩; have H1 := hid (And.intro hN (And.intro (HC.out.2.2.below hb) (via (w := w) HC.out.2.1 hb))); obtain ⟨b0, b1, b2, b3, bf⟩ := H1.out.2.1; clear hN hb)
  obtain ⟨s0, s1, s2, s3⟩ := Rg.Rc.set4 b0 b1 b2 b3 (.int .i64 (reachG L N out s).x0) (.int .i64 (reachG L N out s).y0) (.int .i64 (reachG L N out s).x1) (.int .i64 (reachG L N out s).y1)
  refine bodyPost_ret (v := .agg #[.int .i64 (reachG L N out s).x0, .int .i64 (reachG L N out s).y0, .int .i64 (reachG L N out s).x1, .int .i64 (reachG L N out s).y1]) (by simp [results, Tryd.results12, go_sem, s0, s1, s2, s3]) rfl ⟨⟨N, H1.out.1, rfl⟩, ?_⟩
  exact Rg.below_set4 H1.out.2.2 (by omega) _ _ _ _ _ _ _ _
theorem of_any (a b c d : Int) (w : World) :
    Calls Tryd.prog 11 #[.int .i64 a, .int .i64 b, .int .i64 c, .int .i64 d] w fun e w' => e = .returned (.agg #[.int .i64 a, .int .i64 b, .int .i64 c, .int .i64 d]) ∧ Below w.heap.size w w' := by
  go_enter Tryd.func11, Tryd.ntmps11
  go_wp2
  refine bodyPost_ret (v := .agg #[.int .i64 a, .int .i64 b, .int .i64 c, .int .i64 d]) (by simp [results, Tryd.results11, go_sem]) rfl ⟨rfl, ?_⟩
  go_grown

/-- is a filter right, of few nodes? -/
def rightG (L : List Nv) (out : Int) : Bool := fewB L 12 && decide (checkI L out = 0)
set_option maxRecDepth 100000 in
set_option maxHeartbeats 1000000 in
theorem right_any (ao : Option Addr) (n c b off : Nat) (L : List Nv) (out : Int) (w : World) (hT : Tabs w) (h : Vn w ao n c b off L) :
    Calls Tryd.prog 6 #[.agg #[.slice ao n c, .int .i64 out]] w fun e w' => e = .returned (.bool (rightG L out)) ∧ Below w.heap.size w w' := by
  have hl := vn_len h
  have HS := hid (sg_new w ao n c out 24)
  have H := hid (And.intro h hT)
  clear h hT
  rcases hfew : fewB L 12 with _ | _
  · have HF := hid hfew
    have hr : Hid (rightG L out = false) := hid (by unfold rightG; rw [hfew]; rfl)
    clear hfew
    go_enter Tryd.func6, Tryd.ntmps6
    go_wp2_with (go_at_call 13; with_reducible refine Calls.mono (few_any _ _ _ b off L _ 12 _ (H.out.1.below HS.out.2) (by decide)) ?_; rintro e w2 ⟨rfl, hb⟩; replace HS := hid (sg_below HS.out hb); rw [HF.out]; clear hb)
    go_ret
    exact ⟨ret_bool hr.out.symm, HS.out.2⟩
  · obtain ⟨hn, hf, -⟩ := few_of hl hfew (by decide)
    have HF := hid (And.intro hfew hf)
    have hr : Hid (rightG L out = decide (checkI L out = 0)) := hid (by unfold rightG; rw [hfew, Bool.true_and])
    clear hfew hf
    go_enter Tryd.func6, Tryd.ntmps6
    go_wp2_with (first
      | (go_at_call 13; with_reducible refine Calls.mono (few_any _ _ _ b off L _ 12 _ (H.out.1.below HS.out.2) (by decide)) ?_; rintro e w2 ⟨rfl, hb⟩; replace HS := hid (sg_below HS.out hb); obtain ⟨c0, c1⟩ := HS.out.1; rw [HF.out.1]; clear hb)
      | (go_at_call 14; with_reducible refine Calls.mono (refCheck_any _ _ _ b off L _ _ (H.out.2.below HS.out.2) (H.out.1.below HS.out.2) HF.out.2) ?_; rintro e w3 ⟨rfl, hb⟩; replace HS := hid (sg_below HS.out hb); clear hb c0 c1))
    go_ret
    exact ⟨ret_bool (by rw [hr.out]; first | rfl | simp), HS.out.2⟩

/-- is a region right, of few rectangles? -/
def regG (l : List RR) : Bool := decide (l.length ≤ 6) && (Rg.fewB l && Rg.Num.refRightB l)
set_option maxRecDepth 100000 in
set_option maxHeartbeats 1000000 in
theorem region_any (ao : Option Addr) (n c b off : Nat) (l : List RR) (w : World) (h : Rg.Vw w ao n c b off l) :
    Calls Tryd.prog 7 #[.slice ao n c] w fun e w' => e = .returned (.bool (regG l)) ∧ Below w.heap.size w w' := by
  have hl := Rg.vw_len h
  have hn := Rg.vw_small h
  have H := hid h
  clear h
  by_cases h6 : n ≤ 6
  · have h6z : (n : Int) ≤ 6 := by omega
    rcases hfew : Rg.fewB l with _ | _
    · have HR : Hid (regG l = false) := hid (by unfold regG; rw [hfew, decide_eq_true (by omega)]; rfl)
      have HF := hid hfew
      clear hfew
      go_enter Tryd.func7, Tryd.ntmps7
      go_wp2_with (go_at_call 15; with_reducible refine Calls.mono (Rg.few_any _ _ _ b off l _ H.out) ?_; rintro e w2 ⟨rfl, hb⟩; have HB := hid hb; rw [HF.out]; clear hb)
      go_ret
      exact ⟨ret_bool HR.out.symm, HB.out⟩
    · have HR : Hid (regG l = Rg.Num.refRightB l) := hid (by unfold regG; rw [hfew, decide_eq_true (by omega), Bool.true_and, Bool.true_and])
      have HF := hid (And.intro hfew (show l.length ≤ 1000 by omega))
      clear hfew
      go_enter Tryd.func7, Tryd.ntmps7
      go_wp2_with (first
        | (go_at_call 15; with_reducible refine Calls.mono (Rg.few_any _ _ _ b off l _ H.out) ?_; rintro e w2 ⟨rfl, hb⟩; have HB := hid hb; rw [HF.out.1]; clear hb)
        | (go_at_call 16; with_reducible refine Calls.mono (Rg.refRight_any _ _ _ b off l _ (Rg.Vz.below H.out HB.out) HF.out.2) ?_; rintro e w3 ⟨rfl, hb⟩; have HB3 := hid (via (w := w) HB.out hb); clear hb))
      go_ret
      exact ⟨ret_bool HR.out.symm, HB3.out⟩
  · have HR : Hid (regG l = false) := hid (by unfold regG; rw [decide_eq_false (by omega)]; rfl)
    have h6z : ¬ ((n : Int) ≤ 6) := by omega
    go_enter Tryd.func7, Tryd.ntmps7
    go_wp2
    go_ret
    exact ⟨ret_bool HR.out.symm, Below.refl _ _⟩
/-- what is known of a right region of few rectangles -/
theorem reg_inv {l : List RR} (h : regG l = true) : l.length ≤ 6 ∧ Inv (l.map Rg.Num.R.x0 ++ l.map Rg.Num.R.x1) (l.map Rg.Num.R.y0 ++ l.map Rg.Num.R.y1) l := by
  unfold regG at h
  rw [Bool.and_eq_true, Bool.and_eq_true, decide_eq_true_eq] at h
  obtain ⟨hr, hok⟩ := Rg.Num.of_refRight h.2.2
  refine ⟨h.1, hr, hok, fun r hr => ?_⟩
  exact ⟨⟨List.mem_append_left _ (List.mem_map_of_mem hr), List.mem_append_right _ (List.mem_map_of_mem hr)⟩, List.mem_append_left _ (List.mem_map_of_mem hr), List.mem_append_right _ (List.mem_map_of_mem hr)⟩
end Go.Proofs.YteiihgoobhlkbaaDoor
