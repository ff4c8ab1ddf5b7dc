/- Whether a box and radii are fine: contracts. -/
import Derived.Test.YtfgfgfmimejpdaaRBoxH
import Derived.Test.YtfgfgfmimejpdaaRAreas
import Derived.Test.YtfgfgfmimejpdaaRightB
namespace Go.Proofs.Ytfgfgfmimejpdaa
open Num Go.RowKit
set_option linter.unusedVariables false
set_option linter.unusedSimpArgs false

def fineF (D : R) (rx ry most : Int) : Bool := decide ((0 ≤ rx ∧ 0 ≤ ry ∧ rx ≤ 255 ∧ ry ≤ 255) ∧ ((-33554432 ≤ D.x0 ∧ D.x0 ≤ 33554432) ∧ (-33554432 ≤ D.y0 ∧ D.y0 ≤ 33554432) ∧ (-33554432 ≤ D.x1 ∧ D.x1 ≤ 33554432) ∧ (-33554432 ≤ D.y1 ∧ D.y1 ≤ 33554432))) && decide (area (grow D rx ry rx ry) ≤ most)
def fineQ (B : R) (n : Nat) (D : R) (rx ry : Int) : Bool := decide (n ≤ 300) && bufB B n && decide (rx ≤ 12) && decide (ry ≤ 12) && fineF D rx ry 1500
theorem fine_no {D : R} {rx ry most : Int} (h : ¬ ((0 ≤ rx ∧ 0 ≤ ry ∧ rx ≤ 255 ∧ ry ≤ 255) ∧ ((-33554432 ≤ D.x0 ∧ D.x0 ≤ 33554432) ∧ (-33554432 ≤ D.y0 ∧ D.y0 ≤ 33554432) ∧ (-33554432 ≤ D.x1 ∧ D.x1 ≤ 33554432) ∧ (-33554432 ≤ D.y1 ∧ D.y1 ≤ 33554432)))) : fineF D rx ry most = false := by
  unfold fineF
  rw [decide_eq_false h]
  rfl
/-- what fine means -/
structure Good8 (B : R) (n : Nat) (D : R) (rx ry : Int) (a b : Nat) : Prop where
  hn : n ≤ 300
  buf : bufB B n = true
  hrx : rx = (a : Int)
  hry : ry = (b : Int)
  ha : a ≤ 12
  hb : b ≤ 12
  half : Half D
  few : area (grow D (a : Int) (b : Int) (a : Int) (b : Int)) ≤ 1500
theorem good8 {B : R} {n : Nat} {D : R} {rx ry : Int} (h : fineQ B n D rx ry = true) : ∃ a b, Good8 B n D rx ry a b := by
  unfold fineQ fineF at h
  simp only [Bool.and_eq_true, decide_eq_true_eq] at h
  obtain ⟨⟨⟨⟨h1, h2⟩, h3⟩, h4⟩, ⟨h5, h6⟩, h7⟩ := h
  have e1 : rx = ((rx.toNat : Nat) : Int) := by omega
  have e2 : ry = ((ry.toNat : Nat) : Int) := by omega
  refine ⟨rx.toNat, ry.toNat, h1, h2, e1, e2, by omega, by omega, h6, ?_⟩
  rw [← e1, ← e2]
  exact h7

set_option maxHeartbeats 1000000 in
theorem refFine_any (D : R) (rx ry most : Int) (w : World) :
    Calls Try.prog 26 #[.agg #[.int .i64 D.x0, .int .i64 D.y0, .int .i64 D.x1, .int .i64 D.y1], .int .i64 rx, .int .i64 ry, .int .i64 most] w fun e w' => e = .returned (.bool (fineF D rx ry most)) ∧ Below w.heap.size w w' := by
  have HB : Hid (Below w.heap.size w (w.alloc (.cells #[.int .i64 D.x0, .int .i64 D.y0, .int .i64 D.x1, .int .i64 D.y1] 23))) := (Below.refl _ _).alloc (Nat.le_refl _) _
  have hP := Rc.Has4.new (W := w) rfl (.int .i64 D.x0) (.int .i64 D.y0) (.int .i64 D.x1) (.int .i64 D.y1) 23
  obtain ⟨p0, p1, p2, p3, pf⟩ := id hP
  by_cases c0 : 0 ≤ rx
  case neg =>
    have E : fineF D rx ry most = false := fine_no (by omega)
    have n0 : rx < 0 := by omega
    rw [E]
    clear E
    go_enter Try.func26, Try.ntmps26
    go_wp2
    go_ret
    exact ⟨rfl, HB.out⟩
  by_cases c1 : 0 ≤ ry
  case neg =>
    have E : fineF D rx ry most = false := fine_no (by omega)
    have n1 : ry < 0 := by omega
    rw [E]
    clear E
    go_enter Try.func26, Try.ntmps26
    go_wp2
    go_ret
    exact ⟨rfl, HB.out⟩
  by_cases c2 : rx ≤ 255
  case neg =>
    have E : fineF D rx ry most = false := fine_no (by omega)
    have n2 : 255 < rx := by omega
    rw [E]
    clear E
    go_enter Try.func26, Try.ntmps26
    go_wp2
    go_ret
    exact ⟨rfl, HB.out⟩
  by_cases c3 : ry ≤ 255
  case neg =>
    have E : fineF D rx ry most = false := fine_no (by omega)
    have n3 : 255 < ry := by omega
    rw [E]
    clear E
    go_enter Try.func26, Try.ntmps26
    go_wp2
    go_ret
    exact ⟨rfl, HB.out⟩
  by_cases c4 : -33554432 ≤ D.x0
  case neg =>
    have E : fineF D rx ry most = false := fine_no (by omega)
    have n4 : D.x0 < -33554432 := by omega
    rw [E]
    clear E
    go_enter Try.func26, Try.ntmps26
    go_wp2
    go_ret
    exact ⟨rfl, HB.out⟩
  by_cases c5 : -33554432 ≤ D.y0
  case neg =>
    have E : fineF D rx ry most = false := fine_no (by omega)
    have n5 : D.y0 < -33554432 := by omega
    rw [E]
    clear E
    go_enter Try.func26, Try.ntmps26
    go_wp2
    go_ret
    exact ⟨rfl, HB.out⟩
  by_cases c6 : D.x1 ≤ 33554432
  case neg =>
    have E : fineF D rx ry most = false := fine_no (by omega)
    have n6 : 33554432 < D.x1 := by omega
    rw [E]
    clear E
    go_enter Try.func26, Try.ntmps26
    go_wp2
    go_ret
    exact ⟨rfl, HB.out⟩
  by_cases c7 : D.y1 ≤ 33554432
  case neg =>
    have E : fineF D rx ry most = false := fine_no (by omega)
    have n7 : 33554432 < D.y1 := by omega
    rw [E]
    clear E
    go_enter Try.func26, Try.ntmps26
    go_wp2
    go_ret
    exact ⟨rfl, HB.out⟩
  by_cases c8 : -33554432 ≤ D.x1
  case neg =>
    have E : fineF D rx ry most = false := fine_no (by omega)
    have n8 : D.x1 < -33554432 := by omega
    rw [E]
    clear E
    go_enter Try.func26, Try.ntmps26
    go_wp2
    go_ret
    exact ⟨rfl, HB.out⟩
  by_cases c9 : -33554432 ≤ D.y1
  case neg =>
    have E : fineF D rx ry most = false := fine_no (by omega)
    have n9 : D.y1 < -33554432 := by omega
    rw [E]
    clear E
    go_enter Try.func26, Try.ntmps26
    go_wp2
    go_ret
    exact ⟨rfl, HB.out⟩
  by_cases c10 : D.x0 ≤ 33554432
  case neg =>
    have E : fineF D rx ry most = false := fine_no (by omega)
    have n10 : 33554432 < D.x0 := by omega
    rw [E]
    clear E
    go_enter Try.func26, Try.ntmps26
    go_wp2
    go_ret
    exact ⟨rfl, HB.out⟩
  by_cases c11 : D.y0 ≤ 33554432
  case neg =>
    have E : fineF D rx ry most = false := fine_no (by omega)
    have n11 : 33554432 < D.y0 := by omega
    rw [E]
    clear E
    go_enter Try.func26, Try.ntmps26
    go_wp2
    go_ret
    exact ⟨rfl, HB.out⟩
  have HO : Hid (Ok ⟨D.x0, D.y0, D.x1, D.y1⟩ ∧ Ok (grow ⟨D.x0, D.y0, D.x1, D.y1⟩ rx ry rx ry) ∧ (0 ≤ rx ∧ rx ≤ 4398046511104) ∧ (0 ≤ ry ∧ ry ≤ 4398046511104)) := by
    refine ⟨?_, ?_, by omega, by omega⟩
    · unfold Ok; dsimp only; omega
    · unfold grow
      split
      · exact ok_nil
      · unfold cutR
        apply ok_orN
        unfold Ok cutN mx mn
        dsimp only
        omega
  have HE : Hid (fineF D rx ry most = decide (area (grow ⟨D.x0, D.y0, D.x1, D.y1⟩ rx ry rx ry) ≤ most)) := by
    show fineF D rx ry most = _
    unfold fineF
    rw [decide_eq_true (by omega)]
    rfl
  obtain ⟨G, hG⟩ : ∃ G, G = grow ⟨D.x0, D.y0, D.x1, D.y1⟩ rx ry rx ry := ⟨_, rfl⟩
  rw [← hG] at HO HE
  have HG := hid hG.symm
  clear hG
  go_enter Try.func26, Try.ntmps26
  go_wp2_with (first
    | (go_at_call 53; with_reducible refine Calls.mono (Rc.refGrow_any D.x0 D.y0 D.x1 D.y1 rx ry rx ry _ HO.out.1 HO.out.2.2.1 HO.out.2.2.2 HO.out.2.2.1 HO.out.2.2.2) ?_; rintro e w1 ⟨rfl, hb1⟩; rw [HG.out]; have HB1 := hid (Rc.via HB.out hb1); clear hb1)
    | (go_at_call 52; with_reducible refine Calls.mono (Rc.refArea_any G.x0 G.y0 G.x1 G.y1 _ HO.out.2.1) ?_; rintro e w2 ⟨rfl, hb2⟩; have HB2 := hid (Rc.via HB1.out hb2); clear hb2))
  go_ret
  exact ⟨ret_bool (by rw [HE.out]), HB2.out⟩

end Go.Proofs.Ytfgfgfmimejpdaa
