/- Whether a rectangle lies in another one: the contract. -/
import Derived.Test.YtamojciiacmjaaaDoorRgRect
import Derived.Test.YtamojciiacmjaaaDoorRgMemA
import Derived.Deep.RegionHeld3
import Derived.Test.YtamojciiacmjaaaDoorMemA
namespace Go.Proofs.YtamojciiacmjaaaDoor.Rg
open Rg.Num Go.RowKit
set_option linter.unusedVariables false
set_option linter.unusedSimpArgs false

/-- four numbers each -/
def eq4 (a b c d p q r s : Int) : Bool := decide ((⟨a, b, c, d⟩ : R) = ⟨p, q, r, s⟩)
theorem eqR (a b c d p q r s : Int) (w : World) : (Op.equalIn 10000 26 (.agg #[.int .i64 a, .int .i64 b, .int .i64 c, .int .i64 d]) (.agg #[.int .i64 p, .int .i64 q, .int .i64 r, .int .i64 s])).run Tryd.prog w = .ok (eq4 a b c d p q r s) w := by
  rw [show (10000 : Nat) = 9999 + 1 from rfl]
  go_simp
  by_cases h1 : a = p
  · by_cases h2 : b = q
    · by_cases h3 : c = r
      · by_cases h4 : d = s
        · subst h1; subst h2; subst h3; subst h4; simp [eq4]
        · simp [eq4, h1, h2, h3, h4]
      · simp [eq4, h1, h2, h3]
    · simp [eq4, h1, h2]
  · simp [eq4, h1]
theorem eq4_same (a b c d : Int) : eq4 a b c d a b c d = true := by simp [eq4]
attribute [local go_sem ↓] eqR
attribute [local go_sem] eq4_same

/-- two rectangles' cells, and that all that was there stays -/
abbrev S8 (w : World) (k m : Nat) (a b c d p q r s : Int) (w' : World) : Prop := (w'.cell? ⟨k, 0, none⟩ = some (.int .i64 a) ∧ w'.cell? ⟨k, 1, none⟩ = some (.int .i64 b) ∧ w'.cell? ⟨k, 2, none⟩ = some (.int .i64 c) ∧ w'.cell? ⟨k, 3, none⟩ = some (.int .i64 d) ∧ w'.cell? ⟨m, 0, none⟩ = some (.int .i64 p) ∧ w'.cell? ⟨m, 1, none⟩ = some (.int .i64 q) ∧ w'.cell? ⟨m, 2, none⟩ = some (.int .i64 r) ∧ w'.cell? ⟨m, 3, none⟩ = some (.int .i64 s)) ∧ Below w.heap.size w w'
theorem s8_below {w : World} {k m : Nat} {a b c d p q r s : Int} {w1 w2 : World} (h : S8 w k m a b c d p q r s w1) (hb : Below w1.heap.size w1 w2) : S8 w k m a b c d p q r s w2 := by
  obtain ⟨⟨c0, c1, c2, c3, d0, d1, d2, d3⟩, hB⟩ := h
  have hk : k < w1.heap.size := World.block_lt_of_cell? w1 ⟨k, 0, none⟩ c0
  have hm : m < w1.heap.size := World.block_lt_of_cell? w1 ⟨m, 0, none⟩ d0
  exact ⟨⟨by rw [hb.cell (p := ⟨k, 0, none⟩) hk]; exact c0, by rw [hb.cell (p := ⟨k, 1, none⟩) hk]; exact c1, by rw [hb.cell (p := ⟨k, 2, none⟩) hk]; exact c2, by rw [hb.cell (p := ⟨k, 3, none⟩) hk]; exact c3, by rw [hb.cell (p := ⟨m, 0, none⟩) hm]; exact d0, by rw [hb.cell (p := ⟨m, 1, none⟩) hm]; exact d1, by rw [hb.cell (p := ⟨m, 2, none⟩) hm]; exact d2, by rw [hb.cell (p := ⟨m, 3, none⟩) hm]; exact d3⟩, hB.trans (hb.mono hB.size)⟩
theorem s8_drew {w : World} {k m : Nat} {a b c d p q r s : Int} {w1 : World} (h : S8 w k m a b c d p q r s w1) : S8 w k m a b c d p q r s w1.drew := s8_below h (Below.refl _ _).drew


theorem s8_new (w : World) (a b c d p q r s : Int) : S8 w w.heap.size (w.heap.size + 1) a b c d p q r s ((w.alloc (.cells #[.int .i64 a, .int .i64 b, .int .i64 c, .int .i64 d] 26)).alloc (.cells #[.int .i64 p, .int .i64 q, .int .i64 r, .int .i64 s] 26)) := by
  have h1 := ((Rc.Has4.new (W := w) rfl (.int .i64 a) (.int .i64 b) (.int .i64 c) (.int .i64 d) 26).alloc (.cells #[.int .i64 p, .int .i64 q, .int .i64 r, .int .i64 s] 26))
  have h2 := Rc.Has4.new (W := w.alloc (.cells #[.int .i64 a, .int .i64 b, .int .i64 c, .int .i64 d] 26)) (k := w.heap.size + 1) (by simp) (.int .i64 p) (.int .i64 q) (.int .i64 r) (.int .i64 s) 26
  exact ⟨⟨h1.c0, h1.c1, h1.c2, h1.c3, h2.c0, h2.c1, h2.c2, h2.c3⟩, ((Below.refl _ _).alloc (Nat.le_refl _) _).alloc (by simp) _⟩

/-- does one lie in the other, as the program asks it -/
def winP (a b : R) : Bool := empB a || decide (meet a b = a)

set_option maxRecDepth 100000 in
set_option maxHeartbeats 1000000 in
theorem within_any (a b c d p q r s : Int) (w : World) :
    Calls Tryd.prog 68 #[.agg #[.int .i64 a, .int .i64 b, .int .i64 c, .int .i64 d], .agg #[.int .i64 p, .int .i64 q, .int .i64 r, .int .i64 s]] w fun e w' => e = .returned (.bool (winP ⟨a, b, c, d⟩ ⟨p, q, r, s⟩)) ∧ Below w.heap.size w w' := by
  have hS := s8_new w a b c d p q r s
  rcases he : empB ⟨a, b, c, d⟩ with _ | _
  · have HE := hid he
    have HW : Hid (winP ⟨a, b, c, d⟩ ⟨p, q, r, s⟩ = decide (meet ⟨a, b, c, d⟩ ⟨p, q, r, s⟩ = ⟨a, b, c, d⟩)) := hid (by unfold winP; rw [he]; rfl)
    clear he
    go_enter Tryd.func68, Tryd.ntmps68
    go_wp2
    go_region_held3 (fun w' => (w'.cell? ⟨w.heap.size, 0, none⟩ = some (.int .i64 a) ∧ w'.cell? ⟨w.heap.size, 1, none⟩ = some (.int .i64 b) ∧ w'.cell? ⟨w.heap.size, 2, none⟩ = some (.int .i64 c) ∧ w'.cell? ⟨w.heap.size, 3, none⟩ = some (.int .i64 d) ∧ w'.cell? ⟨w.heap.size + 1, 0, none⟩ = some (.int .i64 p) ∧ w'.cell? ⟨w.heap.size + 1, 1, none⟩ = some (.int .i64 q) ∧ w'.cell? ⟨w.heap.size + 1, 2, none⟩ = some (.int .i64 r) ∧ w'.cell? ⟨w.heap.size + 1, 3, none⟩ = some (.int .i64 s)) ∧ Below w.heap.size w w') (repeat (first | with_reducible assumption | with_reducible refine s8_drew ?_ | with_reducible refine s8_below ?_ ‹_›))
      ((first
        | (go_at_call 47; with_reducible refine Calls.mono (Rc.empty_any a b c d _) ?_; rintro e w1 ⟨rfl, hb1⟩; rw [HE.out])
        | (go_at_call 54; with_reducible refine Calls.mono (Rc.meet_any a b c d p q r s _) ?_; rintro e w2 ⟨rfl, hb2⟩)))
    go_wp2
    go_ret
    rename_i hq
    exact ⟨ret_bool HW.out.symm, hq.2⟩
  · have HE := hid he
    have HW : Hid (winP ⟨a, b, c, d⟩ ⟨p, q, r, s⟩ = true) := hid (by unfold winP; rw [he]; rfl)
    clear he
    go_enter Tryd.func68, Tryd.ntmps68
    go_wp2
    go_region_with (go_at_call 47; with_reducible refine Calls.mono (Rc.empty_any a b c d _) ?_; rintro e w1 ⟨rfl, hb1⟩; rw [HE.out])
    all_goals (
      go_wp2
      go_ret
      exact ⟨ret_bool HW.out.symm, hS.2.drew.trans (hb1.mono hS.2.drew.size)⟩)
end Go.Proofs.YtamojciiacmjaaaDoor.Rg
