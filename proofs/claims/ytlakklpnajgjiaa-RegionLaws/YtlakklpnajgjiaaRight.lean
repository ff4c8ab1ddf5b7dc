/- Whether a list is a right region: the contract. -/
import Derived.Test.YtlakklpnajgjiaaOf
import Derived.Test.YtlakklpnajgjiaaSame
import Derived.Test.YtlakklpnajgjiaaSets
import Derived.Test.YtlakklpnajgjiaaOfs
import Derived.Deep.RegionHeld3
namespace Go.Proofs.Ytlakklpnajgjiaa
open Num Go.RowKit
set_option linter.unusedVariables false
set_option linter.unusedSimpArgs false
attribute [local go_sem ↓] eqR

def allR : R := ⟨-4398046511104, -4398046511104, 4398046511104, 4398046511104⟩
def withinB (r : R) : Bool := decide (meet r allR = r)

/-- two rectangles' cells, and that all that was there stays -/
abbrev S8 (w : World) (k m : Nat) (a b c d p q r s : Int) (w' : World) : Prop := (w'.cell? ⟨k, 0, none⟩ = some (.int .i64 a) ∧ w'.cell? ⟨k, 1, none⟩ = some (.int .i64 b) ∧ w'.cell? ⟨k, 2, none⟩ = some (.int .i64 c) ∧ w'.cell? ⟨k, 3, none⟩ = some (.int .i64 d) ∧ w'.cell? ⟨m, 0, none⟩ = some (.int .i64 p) ∧ w'.cell? ⟨m, 1, none⟩ = some (.int .i64 q) ∧ w'.cell? ⟨m, 2, none⟩ = some (.int .i64 r) ∧ w'.cell? ⟨m, 3, none⟩ = some (.int .i64 s)) ∧ Below w.heap.size w w'
theorem s8_below {w : World} {k m : Nat} {a b c d p q r s : Int} {w1 w2 : World} (h : S8 w k m a b c d p q r s w1) (hb : Below w1.heap.size w1 w2) : S8 w k m a b c d p q r s w2 := by
  obtain ⟨⟨c0, c1, c2, c3, d0, d1, d2, d3⟩, hB⟩ := h
  have hk : k < w1.heap.size := World.block_lt_of_cell? w1 ⟨k, 0, none⟩ c0
  have hm : m < w1.heap.size := World.block_lt_of_cell? w1 ⟨m, 0, none⟩ d0
  exact ⟨⟨by rw [hb.cell (p := ⟨k, 0, none⟩) hk]; exact c0, by rw [hb.cell (p := ⟨k, 1, none⟩) hk]; exact c1, by rw [hb.cell (p := ⟨k, 2, none⟩) hk]; exact c2, by rw [hb.cell (p := ⟨k, 3, none⟩) hk]; exact c3, by rw [hb.cell (p := ⟨m, 0, none⟩) hm]; exact d0, by rw [hb.cell (p := ⟨m, 1, none⟩) hm]; exact d1, by rw [hb.cell (p := ⟨m, 2, none⟩) hm]; exact d2, by rw [hb.cell (p := ⟨m, 3, none⟩) hm]; exact d3⟩, hB.trans (hb.mono hB.size)⟩
theorem s8_drew {w : World} {k m : Nat} {a b c d p q r s : Int} {w1 : World} (h : S8 w k m a b c d p q r s w1) : S8 w k m a b c d p q r s w1.drew := s8_below h (Below.refl _ _).drew

set_option maxHeartbeats 1000000 in
theorem within_any (a b c d : Int) (w : World) (he : empB ⟨a, b, c, d⟩ = false) :
    Calls Try.prog 32 #[.agg #[.int .i64 a, .int .i64 b, .int .i64 c, .int .i64 d], .agg #[.int .i64 (-4398046511104), .int .i64 (-4398046511104), .int .i64 4398046511104, .int .i64 4398046511104]] w fun e w' => e = .returned (.bool (withinB ⟨a, b, c, d⟩)) ∧ Below w.heap.size w w' := by
  have HE := hid he
  clear he
  have hS : S8 w w.heap.size (w.heap.size + 1) a b c d (-4398046511104) (-4398046511104) 4398046511104 4398046511104 ((w.alloc (.cells #[.int .i64 a, .int .i64 b, .int .i64 c, .int .i64 d] 36)).alloc (.cells #[.int .i64 (-4398046511104), .int .i64 (-4398046511104), .int .i64 4398046511104, .int .i64 4398046511104] 36)) := by
    have h1 := ((Rc.Has4.new (W := w) rfl (.int .i64 a) (.int .i64 b) (.int .i64 c) (.int .i64 d) 36).alloc (.cells #[.int .i64 (-4398046511104), .int .i64 (-4398046511104), .int .i64 4398046511104, .int .i64 4398046511104] 36))
    have h2 := Rc.Has4.new (W := w.alloc (.cells #[.int .i64 a, .int .i64 b, .int .i64 c, .int .i64 d] 36)) (k := w.heap.size + 1) (by simp) (.int .i64 (-4398046511104)) (.int .i64 (-4398046511104)) (.int .i64 4398046511104) (.int .i64 4398046511104) 36
    exact ⟨⟨h1.c0, h1.c1, h1.c2, h1.c3, h2.c0, h2.c1, h2.c2, h2.c3⟩, ((Below.refl _ _).alloc (Nat.le_refl _) _).alloc (by simp) _⟩
  go_enter Try.func32, Try.ntmps32
  go_wp2
  go_region_held3 (fun w' => (w'.cell? ⟨w.heap.size, 0, none⟩ = some (.int .i64 a) ∧ w'.cell? ⟨w.heap.size, 1, none⟩ = some (.int .i64 b) ∧ w'.cell? ⟨w.heap.size, 2, none⟩ = some (.int .i64 c) ∧ w'.cell? ⟨w.heap.size, 3, none⟩ = some (.int .i64 d) ∧ w'.cell? ⟨w.heap.size + 1, 0, none⟩ = some (.int .i64 (-4398046511104)) ∧ w'.cell? ⟨w.heap.size + 1, 1, none⟩ = some (.int .i64 (-4398046511104)) ∧ w'.cell? ⟨w.heap.size + 1, 2, none⟩ = some (.int .i64 4398046511104) ∧ w'.cell? ⟨w.heap.size + 1, 3, none⟩ = some (.int .i64 4398046511104)) ∧ Below w.heap.size w w') (repeat (first | with_reducible assumption | with_reducible refine s8_drew ?_ | with_reducible refine s8_below ?_ ‹_›))
    ((first
      | (go_at_call 31; with_reducible refine Calls.mono (Rc.empty_any a b c d _) ?_; rintro e w1 ⟨rfl, hb1⟩; rw [HE.out])
      | (go_at_call 56; with_reducible refine Calls.mono (Rc.meet_any a b c d (-4398046511104) (-4398046511104) 4398046511104 4398046511104 _) ?_; rintro e w2 ⟨rfl, hb2⟩)))
  go_wp2
  go_ret
  exact ⟨ret_bool rfl, (by assumption : _ ∧ Below w.heap.size w w2).2⟩

def partB (y1 : Int) : R → List R → Bool
  | prev, [] => true
  | prev, r :: t => if r.y1 = y1 ∧ prev.x1 < r.x0 then partB y1 r t else false
def partedB : List R → Bool
  | [] => true
  | r :: t => partB r.y1 r t
theorem part_step {y1 : Int} {l : List R} {k : Nat} {p r : R} (hr : l[k + 1]? = some r) : partB y1 p (l.drop (k + 1)) = if r.y1 = y1 ∧ p.x1 < r.x0 then partB y1 r (l.drop (k + 2)) else false := by
  obtain ⟨h1, rfl⟩ := List.getElem?_eq_some_iff.1 hr
  rw [List.drop_eq_getElem_cons h1]
  rfl

set_option maxRecDepth 100000 in
set_option maxHeartbeats 2000000 in
theorem parted_any (ao : Option Addr) (n c b off : Nat) (l : List R) (w : World) (h : Vw w ao n c b off l) :
    Calls Try.prog 35 #[.slice ao n c] w fun e w' => e = .returned (.bool (partedB l)) ∧ Below w.heap.size w w' := by
  have hl := vw_len h
  have hn := vw_small h
  cases l with
  | nil =>
    simp at hl
    subst hl
    go_enter Try.func35, Try.ntmps35
    go_wp2
    refine wp_loop_rounds 1 ?_
    rw [rounds_succ]
    go_wp2
    go_ret
    exact ⟨rfl, Below.refl _ _⟩
  | cons r0 t =>
    have H : Hid (Vw w ao n c b off (r0 :: t) ∧ (r0 :: t).length = n) := ⟨h, hl⟩
    have hn1 : 1 ≤ n := by rw [← hl]; simp
    obtain ⟨rfl, -⟩ := vw_at0 h
    clear h hl
    go_enter Try.func35, Try.ntmps35
    go_wp2
    go_loopg [3] (n - 1) (fun g i wr => ∃ k p, k + 1 ≤ n ∧ g = n - (k + 1) ∧ i = .int .i64 (k + 1 : Nat) ∧ Below w.heap.size w wr ∧ (r0 :: t)[k]? = some p ∧ partB r0.y1 p ((r0 :: t).drop (k + 1)) = partedB (r0 :: t))
    case atStart => exact ⟨0, r0, hn1, by omega, rfl, Below.refl _ _, rfl, rfl⟩
    case round =>
      obtain ⟨k, p, hk, rfl, rfl, hB, hp, hS⟩ := hrel
      have HB := hid hB
      have HS := hid hS
      clear hS
      by_cases hlt : k + 1 < n
      · have hlz : ((k + 1 : Nat) : Int) < (n : Int) := by omega
        have hlz2 : (k : Int) + 1 < (n : Int) := by omega
        have hlz3 : (k : Int) < (n : Int) := by omega
        obtain ⟨r, hr⟩ : ∃ s, (r0 :: t)[k + 1]? = some s := ⟨_, List.getElem?_eq_getElem (by rw [H.out.2]; exact hlt)⟩
        have hst := part_step (y1 := r0.y1) (p := p) hr
        rw [HS.out] at hst
        have HT := hid hst
        have HR := hid hr
        obtain ⟨-, g0, -, -, g3⟩ := vw_at (H.out.1.below hB) hr
        obtain ⟨-, -, -, q2, -⟩ := vw_at (H.out.1.below hB) hp
        obtain ⟨-, -, -, -, z3⟩ := vw_at0 (H.out.1.below hB)
        have hn0 : (0 : Int) < (n : Int) := by omega
        clear hB hp hr hst
        by_cases e1 : r.y1 = r0.y1
        · by_cases e2 : p.x1 < r.x0
          · rw [if_pos ⟨e1, e2⟩] at HT
            rw [e1] at g3
            have d1 : ¬ (r.x0 ≤ p.x1) := by omega
            have d2 : decide (r.x0 ≤ p.x1) = false := by simpa using d1
            clear e1
            go_wp2
            go_quiet (fail)
            go_wp2
            go_roundg (n - (k + 2))
            case measure => omega
            case rel => exact ⟨k + 1, r, hlt, rfl, by simp, below_drewN HB.out _, HR.out, HT.out.symm⟩
          · rw [if_neg (fun h => e2 h.2)] at HT
            rw [e1] at g3
            have d1 : r.x0 ≤ p.x1 := by omega
            clear e1
            go_wp2
            go_quiet (fail)
            go_wp2
            go_ret
            rw [HT.out]
            exact ⟨rfl, below_drewN HB.out _⟩
        · rw [if_neg (fun h => e1 h.1)] at HT
          have d1 : (r.y1 != r0.y1) = true := by simpa using e1
          go_wp2
          go_quiet (fail)
          go_wp2
          go_ret
          rw [HT.out]
          exact ⟨rfl, below_drewN HB.out _⟩
      · obtain rfl : n = k + 1 := by omega
        clear hB hp
        go_wp2
        go_ret
        rw [← HS.out, List.drop_eq_nil_of_le (by rw [H.out.2]; exact Nat.le_refl _)]
        exact ⟨rfl, HB.out⟩

def followsB (above band : List R) : Bool := match above, band with
  | [], _ => true
  | _ :: _, [] => true
  | a :: l, b :: m => decide (a.y1 ≤ b.y0) && !seamB (a :: l) (b :: m)
set_option maxRecDepth 100000 in
set_option maxHeartbeats 2000000 in
theorem follows_any (ao : Option Addr) (n c b off : Nat) (l : List R) (ao' : Option Addr) (n' c' b' off' : Nat) (l' : List R) (w : World) (h : Vw w ao n c b off l) (h' : Vw w ao' n' c' b' off' l') (hne : l' ≠ []) :
    Calls Try.prog 36 #[.slice ao n c, .slice ao' n' c'] w fun e w' => e = .returned (.bool (followsB l l')) ∧ Below w.heap.size w w' := by
  have hl := vw_len h
  have hn := vw_small h
  have hl' := vw_len h'
  have hn' := vw_small h'
  cases l' with
  | nil => exact absurd rfl hne
  | cons s m =>
    cases l with
    | nil =>
      simp at hl
      subst hl
      go_enter Try.func36, Try.ntmps36
      go_wp2
      go_quiet (fail)
      go_wp2
      go_ret
      exact ⟨rfl, below_drewN (Below.refl _ _) _⟩
    | cons r t =>
      have H : Hid (Vw w ao n c b off (r :: t) ∧ Vw w ao' n' c' b' off' (s :: m)) := ⟨h, h'⟩
      obtain ⟨rfl, -, -, -, h3⟩ := vw_at0 h
      obtain ⟨rfl, -, g1, -, -⟩ := vw_at0 h'
      have hz : ¬ ((n : Int) = 0) := by simp at hl; omega
      have hn0 : (0 : Int) < (n : Int) := by simp at hl; omega
      have hn0' : (0 : Int) < (n' : Int) := by simp at hl'; omega
      have hz' : ((n : Int) == 0) = false := by simpa using hz
      have hp0 : 0 < n := by omega
      have hp0' : 0 < n' := by omega
      clear h h' hl hl'
      by_cases hy : r.y1 ≤ s.y0
      · have E : followsB (r :: t) (s :: m) = !seamB (r :: t) (s :: m) := by
          show (decide (r.y1 ≤ s.y0) && !seamB (r :: t) (s :: m)) = _
          rw [decide_eq_true hy, Bool.true_and]
        rw [E]
        clear E
        have hS : Sv w b (off + 3) b' (off' + 1) (.int .i64 r.y1) (.int .i64 s.y0) w := ⟨⟨h3, g1⟩, Below.refl _ _⟩
        go_enter Try.func36, Try.ntmps36
        go_wp2
        go_region_held3 (fun w' => (w'.cell? ⟨b, off + 3, none⟩ = some (.int .i64 r.y1) ∧ w'.cell? ⟨b', off' + 1, none⟩ = some (.int .i64 s.y0)) ∧ Below w.heap.size w w') (repeat (first | with_reducible assumption | with_reducible refine sv_drew ?_ | with_reducible refine sv_below ?_ ‹_›))
          ((first | (go_at_call 57; with_reducible refine Calls.mono (seamless_any _ n c b off (r :: t) _ n' c' b' off' (s :: m) w.drew (H.out.1.below (Below.refl _ _).drew) (H.out.2.below (Below.refl _ _).drew)) ?_; rintro e w2 ⟨rfl, hb2⟩; have HB := hid (drew_trans hb2))))
        go_wp2
        go_ret
        exact ⟨rfl, HB.out⟩
      · have E : followsB (r :: t) (s :: m) = false := by
          show (decide (r.y1 ≤ s.y0) && !seamB (r :: t) (s :: m)) = _
          rw [decide_eq_false hy]; rfl
        rw [E]
        clear E
        have d1 : decide (r.y1 ≤ s.y0) = false := by simpa using hy
        go_enter Try.func36, Try.ntmps36
        go_wp2
        go_quiet (fail)
        go_wp2
        go_ret
        exact ⟨rfl, below_drewN (Below.refl _ _) _⟩

def bandsB : Nat → List R → List R → Bool
  | 0, _, _ => true
  | k + 1, above, [] => true
  | k + 1, above, r :: t => if partedB (firstL (r :: t)) = true ∧ followsB above (firstL (r :: t)) = true then bandsB k (firstL (r :: t)) ((r :: t).drop (firstL (r :: t)).length) else false
def rightG (l : List R) : Bool := (l.all fun r => !empB r && withinB r) && bandsB (l.length + 1) [] l
abbrev S4 (w : World) (k : Nat) (a b c d : Int) (w' : World) : Prop := (w'.cell? ⟨k, 0, none⟩ = some (.int .i64 a) ∧ w'.cell? ⟨k, 1, none⟩ = some (.int .i64 b) ∧ w'.cell? ⟨k, 2, none⟩ = some (.int .i64 c) ∧ w'.cell? ⟨k, 3, none⟩ = some (.int .i64 d)) ∧ Below w.heap.size w w'
theorem s4_below {w : World} {k : Nat} {a b c d : Int} {w1 w2 : World} (h : S4 w k a b c d w1) (hb : Below w1.heap.size w1 w2) : S4 w k a b c d w2 := by
  obtain ⟨⟨c0, c1, c2, c3⟩, hB⟩ := h
  have hk : k < w1.heap.size := World.block_lt_of_cell? w1 ⟨k, 0, none⟩ c0
  exact ⟨⟨by rw [hb.cell (p := ⟨k, 0, none⟩) hk]; exact c0, by rw [hb.cell (p := ⟨k, 1, none⟩) hk]; exact c1, by rw [hb.cell (p := ⟨k, 2, none⟩) hk]; exact c2, by rw [hb.cell (p := ⟨k, 3, none⟩) hk]; exact c3⟩, hB.trans (hb.mono hB.size)⟩
theorem s4_drew {w : World} {k : Nat} {a b c d : Int} {w1 : World} (h : S4 w k a b c d w1) : S4 w k a b c d w1.drew := s4_below h (Below.refl _ _).drew
theorem first_ne (r : R) (t : List R) : firstL (r :: t) ≠ [] := by simp [firstL]

set_option maxRecDepth 100000 in
set_option maxHeartbeats 4000000 in
theorem right_any (ao : Option Addr) (n c b off : Nat) (l : List R) (w : World) (h : Vw w ao n c b off l) :
    Calls Try.prog 10 #[.slice ao n c] w fun e w' => e = .returned (.bool (rightG l)) ∧ Below w.heap.size w w' := by
  have hn := vw_small h
  have H : Hid (Vw w ao n c b off l ∧ l.length = n) := ⟨h, vw_len h⟩
  clear h
  go_enter Try.func10, Try.ntmps10
  go_wp2
  go_loopg [9] n (fun g i wr => ∃ k : Nat, k ≤ n ∧ g = n - k ∧ i = .int .i64 k ∧ Below w.heap.size w wr ∧ (l.drop k).all (fun r => !empB r && withinB r) = l.all (fun r => !empB r && withinB r))
  case atStart => exact ⟨0, Nat.zero_le _, rfl, rfl, Below.refl _ _, rfl⟩
  case round =>
    obtain ⟨k, hk, rfl, rfl, hB, hS⟩ := hrel
    have HB := hid hB
    by_cases hlt : k < n
    · have hlz : (k : Int) < (n : Int) := by omega
      obtain ⟨r, hr⟩ : ∃ s, l[k]? = some s := ⟨_, List.getElem?_eq_getElem (by rw [H.out.2]; exact hlt)⟩
      rw [all_step hr] at hS
      have HS := hid hS
      obtain ⟨rfl, h0, h1, h2, h3⟩ := vw_at (H.out.1.below hB) hr
      have hS4 : S4 wr wr.heap.size r.x0 r.y0 r.x1 r.y1 (wr.alloc (.cells #[.int .i64 r.x0, .int .i64 r.y0, .int .i64 r.x1, .int .i64 r.y1] 36)) := by
        have h1 := Rc.Has4.new (W := wr) rfl (.int .i64 r.x0) (.int .i64 r.y0) (.int .i64 r.x1) (.int .i64 r.y1) 36
        exact ⟨⟨h1.c0, h1.c1, h1.c2, h1.c3⟩, (Below.refl _ _).alloc (Nat.le_refl _) _⟩
      clear hS hB hr
      rcases he : empB r with _ | _
      · rcases hw : withinB r with _ | _
        · have HH := hid (And.intro he hw)
          clear he hw
          go_wp2
          go_region_held3 (fun w' => (w'.cell? ⟨wr.heap.size, 0, none⟩ = some (.int .i64 r.x0) ∧ w'.cell? ⟨wr.heap.size, 1, none⟩ = some (.int .i64 r.y0) ∧ w'.cell? ⟨wr.heap.size, 2, none⟩ = some (.int .i64 r.x1) ∧ w'.cell? ⟨wr.heap.size, 3, none⟩ = some (.int .i64 r.y1)) ∧ Below wr.heap.size wr w') (repeat (first | with_reducible assumption | with_reducible refine s4_drew ?_ | with_reducible refine s4_below ?_ ‹_›))
            ((first
              | (go_at_call 31; with_reducible refine Calls.mono (Rc.empty_any r.x0 r.y0 r.x1 r.y1 _) ?_; rintro e w1 ⟨rfl, hb1⟩; rw [show empB ⟨r.x0, r.y0, r.x1, r.y1⟩ = false from HH.out.1])
              | (go_at_call 33; with_reducible refine Calls.mono (all_any _) ?_; rintro e w2 ⟨rfl, hb2⟩)
              | (go_at_call 32; with_reducible refine Calls.mono (within_any r.x0 r.y0 r.x1 r.y1 _ HH.out.1) ?_; rintro e w3 ⟨rfl, hb3⟩; rw [show withinB ⟨r.x0, r.y0, r.x1, r.y1⟩ = _ from HH.out.2])))
          have HX := hid (by assumption : _ ∧ Below wr.heap.size wr w3).2
          go_wp2
          go_ret
          exact ⟨ret_bool (by unfold rightG; rw [← HS.out, HH.out.1, HH.out.2]; rfl), HB.out.trans (HX.out.mono HB.out.size)⟩
        · have HH := hid (And.intro he hw)
          clear he hw
          go_wp2
          go_region_held3 (fun w' => (w'.cell? ⟨wr.heap.size, 0, none⟩ = some (.int .i64 r.x0) ∧ w'.cell? ⟨wr.heap.size, 1, none⟩ = some (.int .i64 r.y0) ∧ w'.cell? ⟨wr.heap.size, 2, none⟩ = some (.int .i64 r.x1) ∧ w'.cell? ⟨wr.heap.size, 3, none⟩ = some (.int .i64 r.y1)) ∧ Below wr.heap.size wr w') (repeat (first | with_reducible assumption | with_reducible refine s4_drew ?_ | with_reducible refine s4_below ?_ ‹_›))
            ((first
              | (go_at_call 31; with_reducible refine Calls.mono (Rc.empty_any r.x0 r.y0 r.x1 r.y1 _) ?_; rintro e w1 ⟨rfl, hb1⟩; rw [show empB ⟨r.x0, r.y0, r.x1, r.y1⟩ = false from HH.out.1])
              | (go_at_call 33; with_reducible refine Calls.mono (all_any _) ?_; rintro e w2 ⟨rfl, hb2⟩)
              | (go_at_call 32; with_reducible refine Calls.mono (within_any r.x0 r.y0 r.x1 r.y1 _ HH.out.1) ?_; rintro e w3 ⟨rfl, hb3⟩; rw [show withinB ⟨r.x0, r.y0, r.x1, r.y1⟩ = _ from HH.out.2])))
          have HX := hid (by assumption : _ ∧ Below wr.heap.size wr w3).2
          go_wp2
          go_roundg (n - (k + 1))
          case measure => omega
          case rel => exact ⟨k + 1, hlt, rfl, by simp, HB.out.trans (HX.out.mono HB.out.size), by rw [← HS.out, HH.out.1, HH.out.2]; rfl⟩
      · have HH := hid (And.intro he he)
        clear he
        go_wp2
        go_region_with (first | (go_at_call 31; with_reducible refine Calls.mono (Rc.empty_any r.x0 r.y0 r.x1 r.y1 _) ?_; rintro e w1 ⟨rfl, hb1⟩; rw [show empB ⟨r.x0, r.y0, r.x1, r.y1⟩ = true from HH.out.1]; have HX := hid (s4_below (s4_drew hS4) hb1).2))
        all_goals
          go_wp2
          go_ret
          exact ⟨ret_bool (by unfold rightG; rw [← HS.out, HH.out.1]; rfl), HB.out.trans (HX.out.mono HB.out.size)⟩
    · obtain rfl : k = n := by omega
      have HA : Hid (l.all (fun r => !empB r && withinB r) = true) := by rw [List.drop_eq_nil_of_le (by rw [H.out.2]; exact Nat.le_refl _)] at hS; exact hS.symm
      have HG : Hid (rightG l = bandsB (l.length + 1) [] l) := by show rightG l = _; unfold rightG; rw [HA.out, Bool.true_and]
      clear hS hB
      obtain ⟨wb, rfl⟩ : ∃ wb, wb = wr := ⟨wr, rfl⟩
      go_wp2
      go_loopg [0, 5] (k + 1) (fun g v0 v5 wr => ∃ ao1 n1 c1 b1 off1 la ao2 n2 c2 b2 off2 lb, v0 = .slice ao1 n1 c1 ∧ v5 = .slice ao2 n2 c2 ∧ Vw w ao1 n1 c1 b1 off1 la ∧ Vw w ao2 n2 c2 b2 off2 lb ∧ la.length < g ∧ Below w.heap.size w wr ∧ bandsB g lb la = rightG l)
      case atStart => exact ⟨_, _, _, _, _, l, _, _, _, 0, 0, [], rfl, rfl, H.out.1, vw_nil _ _, by rw [H.out.2]; omega, HB.out, by rw [HG.out, H.out.2]⟩
      case round =>
        obtain ⟨ao1, n1, c1, b1, off1, la, ao2, n2, c2, b2, off2, lb, rfl, rfl, hva, hvb, hg, hB, hS⟩ := hrel
        have HV : Hid (Vw w ao1 n1 c1 b1 off1 la ∧ Vw w ao2 n2 c2 b2 off2 lb ∧ Below w.heap.size w wr) := ⟨hva, hvb, hB⟩
        have hn1 := vw_small hva
        have hl1 := vw_len hva
        obtain ⟨g, rfl⟩ : ∃ g, gk = g + 1 := ⟨gk - 1, by omega⟩
        cases la with
        | nil =>
          simp at hl1
          subst hl1
          have HS := hid hS
          clear hva hvb hB hS
          go_wp2
          go_ret
          rw [← HS.out]
          exact ⟨rfl, HV.out.2.2⟩
        | cons r t =>
          have hp1 : 0 < n1 := by rw [← hl1]; simp
          have hp1z : (0 : Int) < (n1 : Int) := by omega
          obtain rfl := hva.addr (by have := hva.le; omega)
          obtain ⟨m, hm⟩ : ∃ m, m = (firstL (r :: t)).length := ⟨_, rfl⟩
          have hm0 : 0 < m := by rw [hm]; simp [firstL]
          have hmn : m ≤ n1 := by rw [hm, ← hl1]; exact first_le _
          have hvf : Vw w (some ⟨b1, off1, none⟩) m c1 b1 off1 (firstL (r :: t)) := by
            have := vw_take hva hmn
            rw [hm, ← first_take] at this
            rw [hm]
            exact this
          have HM := hid (And.intro hm hvf)
          have hS' : (if partedB (firstL (r :: t)) = true ∧ followsB lb (firstL (r :: t)) = true then bandsB g (firstL (r :: t)) ((r :: t).drop m) else false) = rightG l := by rw [hm]; exact hS
          have HS := hid hS'
          have hcle := hva.le
          have hlen : (r :: t).length < g + 1 := hg
          rcases hP : partedB (firstL (r :: t)) with _ | _
          · have HP := hid hP
            clear hva hvb hB hS hS' hm hvf hP
            go_wp2_with (first
              | (go_at_call 34; with_reducible refine Calls.mono (first_any _ _ _ b1 off1 (r :: t) wr (HV.out.1.below HV.out.2.2)) ?_; rintro e w1 ⟨rfl, hb1⟩; rw [← HM.out.1]; have HB1 := hid (HV.out.2.2.trans (hb1.mono HV.out.2.2.size)); clear hb1)
              | (go_at_call 35; with_reducible refine Calls.mono (parted_any _ _ _ b1 off1 (firstL (r :: t)) w1 (HM.out.2.below HB1.out)) ?_; rintro e w2 ⟨rfl, hb2⟩; rw [HP.out]; have HB2 := hid (HB1.out.trans (hb2.mono HB1.out.size)); clear hb2))
            go_ret
            exact ⟨ret_bool (by rw [← HS.out, HP.out]; rfl), HB2.out⟩
          · rcases hFo : followsB lb (firstL (r :: t)) with _ | _
            · have HP := hid (And.intro hP hFo)
              clear hva hvb hB hS hS' hm hvf hP hFo
              go_wp2_with (first
                | (go_at_call 34; with_reducible refine Calls.mono (first_any _ _ _ b1 off1 (r :: t) wr (HV.out.1.below HV.out.2.2)) ?_; rintro e w1 ⟨rfl, hb1⟩; rw [← HM.out.1]; have HB1 := hid (HV.out.2.2.trans (hb1.mono HV.out.2.2.size)); clear hb1)
                | (go_at_call 35; with_reducible refine Calls.mono (parted_any _ _ _ b1 off1 (firstL (r :: t)) w1 (HM.out.2.below HB1.out)) ?_; rintro e w2 ⟨rfl, hb2⟩; rw [HP.out.1]; have HB2 := hid (HB1.out.trans (hb2.mono HB1.out.size)); clear hb2)
                | (go_at_call 36; with_reducible refine Calls.mono (follows_any _ _ _ b2 off2 lb _ _ _ b1 off1 (firstL (r :: t)) w2 (HV.out.2.1.below HB2.out) (HM.out.2.below HB2.out) (first_ne r t)) ?_; rintro e w3 ⟨rfl, hb3⟩; rw [HP.out.2]; have HB3 := hid (HB2.out.trans (hb3.mono HB2.out.size)); clear hb3))
              go_ret
              exact ⟨ret_bool (by rw [← HS.out, HP.out.1, HP.out.2]; rfl), HB3.out⟩
            · have HP := hid (And.intro hP hFo)
              have hz4 : (m : Int) ≤ (n1 : Int) := by omega
              have HD0 := hid (fun (e : c1 = m) => vw_drop0 (ao' := some ⟨b1, off1, none⟩) hva hmn e)
              have HDS := hid (vw_dropS hva hmn)
              clear hva hvb hB hS hS' hm hvf hP hFo
              go_wp2_with (first
                | (go_at_call 34; with_reducible refine Calls.mono (first_any _ _ _ b1 off1 (r :: t) wr (HV.out.1.below HV.out.2.2)) ?_; rintro e w1 ⟨rfl, hb1⟩; rw [← HM.out.1]; have HB1 := hid (HV.out.2.2.trans (hb1.mono HV.out.2.2.size)); clear hb1)
                | (go_at_call 35; with_reducible refine Calls.mono (parted_any _ _ _ b1 off1 (firstL (r :: t)) w1 (HM.out.2.below HB1.out)) ?_; rintro e w2 ⟨rfl, hb2⟩; rw [HP.out.1]; have HB2 := hid (HB1.out.trans (hb2.mono HB1.out.size)); clear hb2)
                | (go_at_call 36; with_reducible refine Calls.mono (follows_any _ _ _ b2 off2 lb _ _ _ b1 off1 (firstL (r :: t)) w2 (HV.out.2.1.below HB2.out) (HM.out.2.below HB2.out) (first_ne r t)) ?_; rintro e w3 ⟨rfl, hb3⟩; rw [HP.out.2]; have HB3 := hid (HB2.out.trans (hb3.mono HB2.out.size)); clear hb3))
              have hlg : ((r :: t).drop m).length < g := by rw [List.length_drop]; omega
              have hbe : bandsB g (firstL (r :: t)) ((r :: t).drop m) = rightG l := by rw [← HS.out, if_pos HP.out]
              have HLG := hid (And.intro hlg hbe)
              clear hlg hbe
              by_cases hcm : c1 = m
              · go_quiet (fail)
                go_wp2
                go_roundg g
                case measure => omega
                case rel => exact ⟨_, _, _, 0, 0, _, _, _, _, b1, off1, _, rfl, rfl, HD0.out hcm, HM.out.2, HLG.out.1, below_drewN HB3.out _, HLG.out.2⟩
              · go_quiet (fail)
                go_wp2
                go_roundg g
                case measure => omega
                case rel => exact ⟨_, _, _, b1, off1 + m * 4, _, _, _, _, b1, off1, _, rfl, rfl, HDS.out, HM.out.2, HLG.out.1, below_drewN HB3.out _, HLG.out.2⟩
end Go.Proofs.Ytlakklpnajgjiaa
