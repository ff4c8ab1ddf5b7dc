/- What the small functions on boxes do, as contracts. -/
import Derived.Test.YtfgfgfmimejpdaaFlat
import Derived.Deep.RegionHeld3
import Derived.BigQuiet
import Derived.Deep.QuietTactic
namespace Go.Proofs.Ytfgfgfmimejpdaa
open Num Go.RowKit
set_option linter.unusedVariables false
set_option linter.unusedSimpArgs false

/-- four numbers each -/
def eq4 (a b c d p q r s : Int) : Bool := decide ((⟨a, b, c, d⟩ : R) = ⟨p, q, r, s⟩)
theorem eqR (a b c d p q r s : Int) (w : World) : (Op.equalIn 10000 23 (.agg #[.int .i64 a, .int .i64 b, .int .i64 c, .int .i64 d]) (.agg #[.int .i64 p, .int .i64 q, .int .i64 r, .int .i64 s])).run Try.prog w = .ok (eq4 a b c d p q r s) w := by
  rw [show (10000 : Nat) = 9999 + 1 from rfl]
  go_simp
  by_cases h1 : a = p
  · by_cases h2 : b = q
    · by_cases h3 : c = r
      · by_cases h4 : d = s
        · subst h1; subst h2; subst h3; subst h4; simp [eq4]
        · simp [eq4, h1, h2, h3, h4]
      · simp [eq4, h1, h2, h3]
    · simp [eq4, h1, h2]
  · simp [eq4, h1]
theorem eq4_same (a b c d : Int) : eq4 a b c d a b c d = true := by simp [eq4]
attribute [local go_sem ↓] eqR

theorem all_any (w : World) : Calls Try.prog 61 #[] w fun e w' => e = .returned (.agg #[.int .i64 (-4398046511104), .int .i64 (-4398046511104), .int .i64 4398046511104, .int .i64 4398046511104]) ∧ Below w.heap.size w w' := by
  go_enter Try.func61, Try.ntmps61
  go_wp2
  refine bodyPost_ret (v := .agg #[.int .i64 (-4398046511104), .int .i64 (-4398046511104), .int .i64 4398046511104, .int .i64 4398046511104]) (by simp [results, Try.results61, go_sem]) rfl ⟨rfl, ?_⟩
  go_grown

def allR : R := ⟨-4398046511104, -4398046511104, 4398046511104, 4398046511104⟩
def withinB (r : R) : Bool := decide (meet r allR = r)

/-- two rectangles' cells, and that all that was there stays -/
abbrev S8 (w : World) (k m : Nat) (a b c d p q r s : Int) (w' : World) : Prop := (w'.cell? ⟨k, 0, none⟩ = some (.int .i64 a) ∧ w'.cell? ⟨k, 1, none⟩ = some (.int .i64 b) ∧ w'.cell? ⟨k, 2, none⟩ = some (.int .i64 c) ∧ w'.cell? ⟨k, 3, none⟩ = some (.int .i64 d) ∧ w'.cell? ⟨m, 0, none⟩ = some (.int .i64 p) ∧ w'.cell? ⟨m, 1, none⟩ = some (.int .i64 q) ∧ w'.cell? ⟨m, 2, none⟩ = some (.int .i64 r) ∧ w'.cell? ⟨m, 3, none⟩ = some (.int .i64 s)) ∧ Below w.heap.size w w'
theorem s8_below {w : World} {k m : Nat} {a b c d p q r s : Int} {w1 w2 : World} (h : S8 w k m a b c d p q r s w1) (hb : Below w1.heap.size w1 w2) : S8 w k m a b c d p q r s w2 := by
  obtain ⟨⟨c0, c1, c2, c3, d0, d1, d2, d3⟩, hB⟩ := h
  have hk : k < w1.heap.size := World.block_lt_of_cell? w1 ⟨k, 0, none⟩ c0
  have hm : m < w1.heap.size := World.block_lt_of_cell? w1 ⟨m, 0, none⟩ d0
  exact ⟨⟨by rw [hb.cell (p := ⟨k, 0, none⟩) hk]; exact c0, by rw [hb.cell (p := ⟨k, 1, none⟩) hk]; exact c1, by rw [hb.cell (p := ⟨k, 2, none⟩) hk]; exact c2, by rw [hb.cell (p := ⟨k, 3, none⟩) hk]; exact c3, by rw [hb.cell (p := ⟨m, 0, none⟩) hm]; exact d0, by rw [hb.cell (p := ⟨m, 1, none⟩) hm]; exact d1, by rw [hb.cell (p := ⟨m, 2, none⟩) hm]; exact d2, by rw [hb.cell (p := ⟨m, 3, none⟩) hm]; exact d3⟩, hB.trans (hb.mono hB.size)⟩
theorem s8_drew {w : World} {k m : Nat} {a b c d p q r s : Int} {w1 : World} (h : S8 w k m a b c d p q r s w1) : S8 w k m a b c d p q r s w1.drew := s8_below h (Below.refl _ _).drew

set_option maxHeartbeats 1000000 in
theorem within_any (a b c d : Int) (w : World) (he : empB ⟨a, b, c, d⟩ = false) :
    Calls Try.prog 38 #[.agg #[.int .i64 a, .int .i64 b, .int .i64 c, .int .i64 d], .agg #[.int .i64 (-4398046511104), .int .i64 (-4398046511104), .int .i64 4398046511104, .int .i64 4398046511104]] w fun e w' => e = .returned (.bool (withinB ⟨a, b, c, d⟩)) ∧ Below w.heap.size w w' := by
  have HE := hid he
  clear he
  have hS : S8 w w.heap.size (w.heap.size + 1) a b c d (-4398046511104) (-4398046511104) 4398046511104 4398046511104 ((w.alloc (.cells #[.int .i64 a, .int .i64 b, .int .i64 c, .int .i64 d] 23)).alloc (.cells #[.int .i64 (-4398046511104), .int .i64 (-4398046511104), .int .i64 4398046511104, .int .i64 4398046511104] 23)) := by
    have h1 := ((Rc.Has4.new (W := w) rfl (.int .i64 a) (.int .i64 b) (.int .i64 c) (.int .i64 d) 23).alloc (.cells #[.int .i64 (-4398046511104), .int .i64 (-4398046511104), .int .i64 4398046511104, .int .i64 4398046511104] 23))
    have h2 := Rc.Has4.new (W := w.alloc (.cells #[.int .i64 a, .int .i64 b, .int .i64 c, .int .i64 d] 23)) (k := w.heap.size + 1) (by simp) (.int .i64 (-4398046511104)) (.int .i64 (-4398046511104)) (.int .i64 4398046511104) (.int .i64 4398046511104) 23
    exact ⟨⟨h1.c0, h1.c1, h1.c2, h1.c3, h2.c0, h2.c1, h2.c2, h2.c3⟩, ((Below.refl _ _).alloc (Nat.le_refl _) _).alloc (by simp) _⟩
  go_enter Try.func38, Try.ntmps38
  go_wp2
  go_region_held3 (fun w' => (w'.cell? ⟨w.heap.size, 0, none⟩ = some (.int .i64 a) ∧ w'.cell? ⟨w.heap.size, 1, none⟩ = some (.int .i64 b) ∧ w'.cell? ⟨w.heap.size, 2, none⟩ = some (.int .i64 c) ∧ w'.cell? ⟨w.heap.size, 3, none⟩ = some (.int .i64 d) ∧ w'.cell? ⟨w.heap.size + 1, 0, none⟩ = some (.int .i64 (-4398046511104)) ∧ w'.cell? ⟨w.heap.size + 1, 1, none⟩ = some (.int .i64 (-4398046511104)) ∧ w'.cell? ⟨w.heap.size + 1, 2, none⟩ = some (.int .i64 4398046511104) ∧ w'.cell? ⟨w.heap.size + 1, 3, none⟩ = some (.int .i64 4398046511104)) ∧ Below w.heap.size w w') (repeat (first | with_reducible assumption | with_reducible refine s8_drew ?_ | with_reducible refine s8_below ?_ ‹_›))
    ((first
      | (go_at_call 37; with_reducible refine Calls.mono (Rc.empty_any a b c d _) ?_; rintro e w1 ⟨rfl, hb1⟩; rw [HE.out])
      | (go_at_call 42; with_reducible refine Calls.mono (Rc.meet_any a b c d (-4398046511104) (-4398046511104) 4398046511104 4398046511104 _) ?_; rintro e w2 ⟨rfl, hb2⟩)))
  go_wp2
  go_ret
  exact ⟨ret_bool rfl, (by assumption : _ ∧ Below w.heap.size w w2).2⟩


/-- a buffer's five cells, and that all that was there stays -/
abbrev S5 (w : World) (k : Nat) (a b c d : Int) (v : Value) (w' : World) : Prop := (w'.cell? ⟨k, 0, none⟩ = some (.int .i64 a) ∧ w'.cell? ⟨k, 1, none⟩ = some (.int .i64 b) ∧ w'.cell? ⟨k, 2, none⟩ = some (.int .i64 c) ∧ w'.cell? ⟨k, 3, none⟩ = some (.int .i64 d) ∧ w'.cell? ⟨k, 4, none⟩ = some v) ∧ Below w.heap.size w w'
theorem s5_below {w : World} {k : Nat} {a b c d : Int} {v : Value} {w1 w2 : World} (h : S5 w k a b c d v w1) (hb : Below w1.heap.size w1 w2) : S5 w k a b c d v w2 := by
  obtain ⟨⟨c0, c1, c2, c3, c4⟩, hB⟩ := h
  have hk : k < w1.heap.size := World.block_lt_of_cell? w1 ⟨k, 0, none⟩ c0
  exact ⟨⟨by rw [hb.cell (p := ⟨k, 0, none⟩) hk]; exact c0, by rw [hb.cell (p := ⟨k, 1, none⟩) hk]; exact c1, by rw [hb.cell (p := ⟨k, 2, none⟩) hk]; exact c2, by rw [hb.cell (p := ⟨k, 3, none⟩) hk]; exact c3, by rw [hb.cell (p := ⟨k, 4, none⟩) hk]; exact c4⟩, hB.trans (hb.mono hB.size)⟩
theorem s5_drew {w : World} {k : Nat} {a b c d : Int} {v : Value} {w1 : World} (h : S5 w k a b c d v w1) : S5 w k a b c d v w1.drew := s5_below h (Below.refl _ _).drew
theorem s5_new (w : World) (a b c d : Int) (ao : Option Addr) (n m : Nat) : S5 w w.heap.size a b c d (.slice ao n m) (w.alloc (.cells #[.int .i64 a, .int .i64 b, .int .i64 c, .int .i64 d, .slice ao n m] 26)) := by
  have h := Has5.new (W := w) rfl a b c d ao n m 26
  exact ⟨⟨h.c0, h.c1, h.c2, h.c3, h.c4⟩, (Below.refl _ _).alloc (Nat.le_refl _) _⟩

/-- is it a right buffer? -/
def bufB (B : R) (n : Nat) : Bool := if empB B = true then (decide (B = nil) && decide (n = 0)) else (rightB B && decide ((n : Int) = area B))
theorem ok_of_right {B : R} (h : rightB B = true) : Ok B := of_right h

set_option maxHeartbeats 1000000 in
theorem refRightB_any (a b c d : Int) (ao : Option Addr) (n m : Nat) (w : World) (hn : n ≤ 9223372036854775807) :
    Calls Try.prog 34 #[.agg #[.int .i64 a, .int .i64 b, .int .i64 c, .int .i64 d, .slice ao n m]] w fun e w' => e = .returned (.bool (bufB ⟨a, b, c, d⟩ n)) ∧ Below w.heap.size w w' := by
  have hS := s5_new w a b c d ao n m
  rcases he : empB ⟨a, b, c, d⟩ with _ | _
  · rcases hr : rightB ⟨a, b, c, d⟩ with _ | _
    · have E : bufB ⟨a, b, c, d⟩ n = false := by unfold bufB; rw [he, hr]; rfl
      rw [E]
      have HH := hid (And.intro he hr)
      clear he hr E
      go_enter Try.func34, Try.ntmps34
      go_wp2_with (go_at_call 15; with_reducible refine Calls.mono (Rc.refEmpty_any a b c d _) ?_; rintro e w1 ⟨rfl, hb1⟩; rw [HH.out.1]; replace hS := s5_below hS hb1; obtain ⟨⟨p0, p1, p2, p3, p4⟩, pB⟩ := id hS)
      first
        | go_region_with (first
          | (go_at_call 12; with_reducible refine Calls.mono (Rc.right_any a b c d _) ?_; rintro e w2 ⟨rfl, hb2⟩; rw [HH.out.2]; have HX := hid (s5_below (s5_drew hS) hb2).2))
        | fail
      all_goals
        go_wp2
        go_ret
        exact ⟨rfl, HX.out⟩
    · have ho : Ok ⟨a, b, c, d⟩ := ok_of_right hr
      have E : bufB ⟨a, b, c, d⟩ n = decide ((n : Int) = area ⟨a, b, c, d⟩) := by unfold bufB; rw [he, hr]; simp
      rw [E]
      have HH := hid (And.intro he (And.intro hr ho))
      clear he hr E ho
      go_enter Try.func34, Try.ntmps34
      go_wp2_with (go_at_call 15; with_reducible refine Calls.mono (Rc.refEmpty_any a b c d _) ?_; rintro e w1 ⟨rfl, hb1⟩; rw [HH.out.1]; replace hS := s5_below hS hb1; obtain ⟨⟨p0, p1, p2, p3, p4⟩, pB⟩ := id hS)
      go_region_held3 (fun w' => (w'.cell? ⟨w.heap.size, 0, none⟩ = some (.int .i64 a) ∧ w'.cell? ⟨w.heap.size, 1, none⟩ = some (.int .i64 b) ∧ w'.cell? ⟨w.heap.size, 2, none⟩ = some (.int .i64 c) ∧ w'.cell? ⟨w.heap.size, 3, none⟩ = some (.int .i64 d) ∧ w'.cell? ⟨w.heap.size, 4, none⟩ = some (.slice ao n m)) ∧ Below w.heap.size w w') (repeat (first | with_reducible assumption | with_reducible refine s5_drew ?_ | with_reducible refine s5_below ?_ ‹_›))
        ((first
          | (go_at_call 12; with_reducible refine Calls.mono (Rc.right_any a b c d _) ?_; rintro e w2 ⟨rfl, hb2⟩; rw [HH.out.2.1])
          | (go_at_call 52; with_reducible refine Calls.mono (Rc.refArea_any a b c d _ HH.out.2.2) ?_; rintro e w3 ⟨rfl, hb3⟩)))
      go_wp2
      go_ret
      exact ⟨ret_bool (by rw [Bool.eq_iff_iff]; simp), (by assumption : _ ∧ Below w.heap.size w w3).2⟩
  · by_cases hz : (⟨a, b, c, d⟩ : R) = nil
    · obtain ⟨rfl, rfl, rfl, rfl⟩ : a = 0 ∧ b = 0 ∧ c = 0 ∧ d = 0 := by unfold nil at hz; simpa using hz
      have E : bufB ⟨0, 0, 0, 0⟩ n = decide ((n : Int) = 0) := by unfold bufB; rw [he, if_pos rfl, decide_eq_true hz]; simp
      rw [E]
      have HH := hid he
      have z4 := eq4_same 0 0 0 0
      clear he E hz
      go_enter Try.func34, Try.ntmps34
      go_wp2_with (go_at_call 15; with_reducible refine Calls.mono (Rc.refEmpty_any 0 0 0 0 _) ?_; rintro e w1 ⟨rfl, hb1⟩; rw [HH.out]; replace hS := s5_below hS hb1; obtain ⟨⟨p0, p1, p2, p3, p4⟩, pB⟩ := id hS)
      go_ret
      exact ⟨ret_bool (by rw [Bool.eq_iff_iff]; simp), hS.2⟩
    · have E : bufB ⟨a, b, c, d⟩ n = false := by unfold bufB; rw [he, if_pos rfl, decide_eq_false hz]; rfl
      rw [E]
      have z4 : eq4 a b c d 0 0 0 0 = false := decide_eq_false hz
      have HH := hid he
      clear he E hz
      go_enter Try.func34, Try.ntmps34
      go_wp2_with (go_at_call 15; with_reducible refine Calls.mono (Rc.refEmpty_any a b c d _) ?_; rintro e w1 ⟨rfl, hb1⟩; rw [HH.out]; replace hS := s5_below hS hb1; obtain ⟨⟨p0, p1, p2, p3, p4⟩, pB⟩ := id hS)
      go_ret
      exact ⟨rfl, hS.2⟩
end Go.Proofs.Ytfgfgfmimejpdaa
