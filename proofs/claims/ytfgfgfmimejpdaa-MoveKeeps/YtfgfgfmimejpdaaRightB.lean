/- Whether a buffer is right: contracts. -/
import Derived.Test.YtfgfgfmimejpdaaSmall
namespace Go.Proofs.Ytfgfgfmimejpdaa
open Num Go.RowKit
set_option linter.unusedVariables false
set_option linter.unusedSimpArgs false
attribute [local go_sem ↓] eqR

theorem buf_cases {B : R} {n : Nat} (h : bufB B n = true) : (empB B = true ∧ B = nil ∧ n = 0) ∨ (empB B = false ∧ rightB B = true ∧ (n : Int) = area B) := by
  unfold bufB at h
  by_cases he : empB B = true
  · rw [if_pos he] at h
    simp only [Bool.and_eq_true, decide_eq_true_eq] at h
    exact .inl ⟨he, h.1, h.2⟩
  · rw [if_neg he] at h
    simp only [Bool.and_eq_true, decide_eq_true_eq] at h
    exact .inr ⟨by simpa using he, h.1, h.2⟩
theorem within_of {B : R} (h : rightB B = true) (he : empB B = false) : withinB B = true := by
  obtain ⟨⟨a0, a1⟩, ⟨b0, b1⟩, ⟨c0, c1⟩, d0, d1⟩ := of_right h
  unfold withinB meet allR
  rw [show (⟨mx B.x0 (-4398046511104), mx B.y0 (-4398046511104), mn B.x1 4398046511104, mn B.y1 4398046511104⟩ : R) = B by
    obtain ⟨p, q, r, s⟩ := B
    dsimp only at *
    simp only [R.mk.injEq]
    unfold mx mn
    omega]
  rw [orN_no he]
  simp

set_option maxHeartbeats 1000000 in
theorem rasterRight_yes (a b c d : Int) (ao : Option Addr) (n m : Nat) (w : World) (hn : n ≤ 9223372036854775807) (h : bufB ⟨a, b, c, d⟩ n = true) :
    Calls Try.prog 65 #[.agg #[.int .i64 a, .int .i64 b, .int .i64 c, .int .i64 d, .slice ao n m]] w fun e w' => e = .returned (.bool true) ∧ Below w.heap.size w w' := by
  have hS := s5_new w a b c d ao n m
  rcases buf_cases h with ⟨he, hz, rfl⟩ | ⟨he, hr, ha⟩
  · obtain ⟨rfl, rfl, rfl, rfl⟩ : a = 0 ∧ b = 0 ∧ c = 0 ∧ d = 0 := by unfold nil at hz; simpa using hz
    have HH := hid he
    have z4 := eq4_same 0 0 0 0
    clear he hz h
    go_enter Try.func65, Try.ntmps65
    go_wp2_with (go_at_call 37; with_reducible refine Calls.mono (Rc.empty_any 0 0 0 0 _) ?_; rintro e w1 ⟨rfl, hb1⟩; rw [HH.out]; replace hS := s5_below hS hb1; obtain ⟨⟨p0, p1, p2, p3, p4⟩, pB⟩ := id hS)
    go_ret
    exact ⟨rfl, hS.2⟩
  · have ho : Ok ⟨a, b, c, d⟩ := ok_of_right hr
    have HH := hid (And.intro he (And.intro (within_of hr he) (And.intro ho ha)))
    clear he hr ho ha h
    go_enter Try.func65, Try.ntmps65
    go_wp2_with (go_at_call 37; with_reducible refine Calls.mono (Rc.empty_any a b c d _) ?_; rintro e w1 ⟨rfl, hb1⟩; rw [HH.out.1]; replace hS := s5_below hS hb1; obtain ⟨⟨p0, p1, p2, p3, p4⟩, pB⟩ := id hS)
    go_region_held3 (fun w' => (w'.cell? ⟨w.heap.size, 0, none⟩ = some (.int .i64 a) ∧ w'.cell? ⟨w.heap.size, 1, none⟩ = some (.int .i64 b) ∧ w'.cell? ⟨w.heap.size, 2, none⟩ = some (.int .i64 c) ∧ w'.cell? ⟨w.heap.size, 3, none⟩ = some (.int .i64 d) ∧ w'.cell? ⟨w.heap.size, 4, none⟩ = some (.slice ao n m)) ∧ Below w.heap.size w w') (repeat (first | with_reducible assumption | with_reducible refine s5_drew ?_ | with_reducible refine s5_below ?_ ‹_›))
      ((first
        | (go_at_call 61; with_reducible refine Calls.mono (all_any _) ?_; rintro e w2 ⟨rfl, hb2⟩)
        | (go_at_call 38; with_reducible refine Calls.mono (within_any a b c d _ HH.out.1) ?_; rintro e w3 ⟨rfl, hb3⟩; rw [HH.out.2.1])
        | (go_at_call 62; with_reducible refine Calls.mono (Rc.area_any a b c d _ HH.out.2.2.1) ?_; rintro e w4 ⟨rfl, hb4⟩)))
    go_wp2
    go_ret
    exact ⟨ret_bool (by rw [HH.out.2.2.2]; simp), (by assumption : _ ∧ Below w.heap.size w w4).2⟩

def rightS (B : R) (n : Nat) : Bool := decide (n ≤ 2000) && bufB B n
def littleB (r : R) (k : Int) : Bool := rightB r && decide (area r ≤ k)
end Go.Proofs.Ytfgfgfmimejpdaa
