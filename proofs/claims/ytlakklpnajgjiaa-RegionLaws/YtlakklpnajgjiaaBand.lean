/- The bands of a region: contracts of the small functions that go through them. -/
import Derived.Test.YtlakklpnajgjiaaFlat
import Derived.Deep.LoopGhost
import Derived.Deep.Light
import Derived.Deep.QuietTactic
import Derived.BigQuiet
namespace Go.Proofs.Ytlakklpnajgjiaa
open Num Go.RowKit
set_option linter.unusedVariables false

theorem below_drewN {B : Nat} {a w : World} (h : Below B a w) (n : Nat) : Below B a (w.drewN n) := ⟨h.os, h.tape, h.output, h.size, h.block⟩

theorem first_step {r : R} {t : List R} {k : Nat} (hk : 0 < k) (h : k ≤ (firstL (r :: t)).length) {s : R} (hs : (r :: t)[k]? = some s) : (s.y0 = r.y0 ∧ k + 1 ≤ (firstL (r :: t)).length) ∨ (s.y0 ≠ r.y0 ∧ k = (firstL (r :: t)).length) := by
  obtain ⟨k, rfl⟩ : ∃ j, k = j + 1 := ⟨k - 1, by omega⟩
  simp only [firstL, List.length_cons, List.getElem?_cons_succ] at *
  induction t generalizing k with
  | nil => simp at hs
  | cons u t ih =>
    by_cases hu : u.y0 = r.y0
    · have e : List.takeWhile (fun s => decide (s.y0 = r.y0)) (u :: t) = u :: List.takeWhile (fun s => decide (s.y0 = r.y0)) t := by simp [hu]
      rw [e] at h ⊢
      cases k with
      | zero => simp at hs; subst hs; exact .inl ⟨hu, by simp⟩
      | succ k =>
        have := ih k (by omega) (by simpa using h) (by simpa using hs)
        simp only [List.length_cons]
        omega
    · have e : List.takeWhile (fun s => decide (s.y0 = r.y0)) (u :: t) = [] := by simp [hu]
      rw [e] at h ⊢
      simp at h
      subst h
      simp at hs
      subst hs
      exact .inr ⟨hu, by simp⟩
theorem first_le (l : List R) : (firstL l).length ≤ l.length := by
  cases l with
  | nil => simp [firstL]
  | cons r t => simp only [firstL, List.length_cons]; have := (List.takeWhile_sublist (p := fun s : R => decide (s.y0 = r.y0)) (l := t)).length_le; omega

set_option maxRecDepth 100000 in
theorem first_any (ao : Option Addr) (n c b off : Nat) (l : List R) (w : World) (h : Vw w ao n c b off l) :
    Calls Try.prog 34 #[.slice ao n c] w fun e w' => e = .returned (.slice ao (firstL l).length c) ∧ Below w.heap.size w w' := by
  have hl := vw_len h
  have hn := vw_small h
  have hle := h.le
  have hF := first_le l
  have HF : Hid ((firstL l).length ≤ n) := by rw [← hl]; exact hF
  clear hF
  have HG : Hid (∀ k s, k < n → l[k]? = some s → k ≤ (firstL l).length → ∃ r t, l = r :: t ∧ ((s.y0 = r.y0 ∧ k + 1 ≤ (firstL l).length) ∨ (s.y0 ≠ r.y0 ∧ k = (firstL l).length))) := by
    intro k s hk hs hkF
    cases l with
    | nil => simp at hs
    | cons r t =>
      refine ⟨r, t, rfl, ?_⟩
      cases k with
      | zero => simp at hs; subst hs; exact .inl ⟨rfl, by simp [firstL]⟩
      | succ k => exact first_step (by omega) hkF hs
  have H : Hid (Vw w ao n c b off l) := h
  have HL : Hid (l.length = n) := hl
  clear h hl
  go_enter Try.func34, Try.ntmps34
  go_wp2
  go_loopg [3] n (fun g i wr => ∃ k : Nat, k ≤ (firstL l).length ∧ g = n - k ∧ i = .int .i64 k ∧ Below w.heap.size w wr)
  case atStart => exact ⟨0, Nat.zero_le _, rfl, rfl, Below.refl _ _⟩
  case round =>
    obtain ⟨k, hk, rfl, rfl, hB⟩ := hrel
    have hkn : k ≤ n := Nat.le_trans hk HF.out
    by_cases hlt : k < n
    · have hlz : (k : Int) < (n : Int) := by omega
      obtain ⟨s, hs⟩ : ∃ s, l[k]? = some s := ⟨_, List.getElem?_eq_getElem (by rw [HL.out]; exact hlt)⟩
      obtain ⟨r, t, e, hor⟩ := HG.out k s hlt hs hk
      have hv := H.out.below hB
      obtain ⟨rfl, -, h1, -, -⟩ := vw_at hv hs
      rw [e] at hv
      obtain ⟨-, -, g1, -, -⟩ := vw_at0 hv
      have hn0 : (0 : Int) < (n : Int) := by omega
      have A : Hid (l = r :: t ∧ l[k]? = some s) := ⟨e, hs⟩
      clear e hs hv
      rcases hor with ⟨hy, hk1⟩ | ⟨hy, hk1⟩
      · go_wp2
        go_quiet (fail)
        go_wp2
        go_roundg (n - (k + 1))
        case measure => omega
        case rel => exact ⟨k + 1, hk1, rfl, by simp, below_drewN hB _⟩
      · have K1 : Hid (k = (firstL l).length) := hk1
        clear hk1
        go_wp2
        go_quiet (fail)
        go_wp2
        go_ret
        rw [← K1.out]
        exact ⟨rfl, below_drewN hB _⟩
    · obtain rfl : k = n := by omega
      have hlz : decide ((k : Int) < (k : Int)) = false := by simp
      go_wp2
      go_quiet (fail)
      go_wp2
      go_ret
      have e : (firstL l).length = k := Nat.le_antisymm HF.out hk
      rw [e]
      exact ⟨rfl, below_drewN hB _⟩

theorem nextEdge_any (y : Int) (ao : Option Addr) (n c b off : Nat) (l : List R) (w : World) (h : Vw w ao n c b off l) :
    Calls Try.prog 58 #[.slice ao n c, .int .i64 y] w fun e w' => e = .returned (.int .i64 (nextE l y)) ∧ w' = w := by
  have hl := vw_len h
  have hn := vw_small h
  cases l with
  | nil =>
    simp at hl
    subst hl
    go_enter Try.func58, Try.ntmps58
    go_wp2
    all_goals
      go_ret
      exact ⟨rfl, rfl⟩
  | cons r t =>
    obtain ⟨rfl, -, h1, -, h3⟩ := vw_at0 h
    have hz : ¬ ((n : Int) = 0) := by simp at hl; omega
    have hn0 : 0 < n := by simp at hl; omega
    clear hl
    go_enter Try.func58, Try.ntmps58
    go_wp2
    all_goals
      go_ret
      first | exact ⟨ret_int (by unfold nextE; dsimp only; rw [if_pos (by assumption)]), rfl⟩ | exact ⟨ret_int (by unfold nextE; dsimp only; rw [if_neg (by omega)]), rfl⟩

theorem first_take (l : List R) : firstL l = l.take (firstL l).length := by
  cases l with
  | nil => rfl
  | cons r t =>
    simp only [firstL, List.length_cons, List.take_succ_cons]
    congr 1
    exact (List.prefix_iff_eq_take.1 (List.takeWhile_prefix _))

theorem bandAt_any (y : Int) (ao : Option Addr) (n c b off : Nat) (l : List R) (W w : World) (hV : Vw W ao n c b off l) (hW : Below W.heap.size W w) :
    Calls Try.prog 60 #[.slice ao n c, .int .i64 y] w fun e w' => RetV W e (bandL l y) ∧ Below w.heap.size w w' := by
  have h := hV.below hW
  have HW : Hid (Vw W ao n c b off l) := hV
  clear hV hW
  have hl := vw_len h
  have hn := vw_small h
  cases l with
  | nil =>
    simp at hl
    subst hl
    go_enter Try.func60, Try.ntmps60
    go_wp2
    all_goals
      go_ret
      exact ⟨⟨_, _, _, 0, 0, rfl, vw_nil _ _⟩, Below.refl _ _⟩
  | cons r t =>
    have H : Hid (Vw w ao n c b off (r :: t)) := h
    obtain ⟨rfl, -, h1, -, h3⟩ := vw_at0 h
    have hz : ¬ ((n : Int) = 0) := by simp at hl; omega
    have hn0 : 0 < n := by simp at hl; omega
    clear hl h
    by_cases hy : y < r.y0
    · have E : Hid (bandL (r :: t) y = []) := by show bandL (r :: t) y = []; simp [bandL, hy]
      go_enter Try.func60, Try.ntmps60
      go_wp2
      all_goals
        go_ret
        rw [E.out]
        exact ⟨⟨_, _, _, 0, 0, rfl, vw_nil _ _⟩, Below.refl _ _⟩
    · have E : Hid (bandL (r :: t) y = firstL (r :: t)) := by show bandL (r :: t) y = _; simp [bandL, hy]
      go_enter Try.func60, Try.ntmps60
      go_wp2_with (go_at_call 34; refine (first_any _ _ _ b off (r :: t) _ H.out).mono ?_; rintro e w' ⟨rfl, hb⟩)
      all_goals
        go_ret
        rw [E.out]
        refine ⟨⟨_, _, _, b, off, rfl, ?_⟩, hb⟩
        have := vw_take HW.out (k := (firstL (r :: t)).length) (by rw [← vw_len H.out]; exact first_le _)
        rw [← first_take] at this
        exact this

theorem below_any (y : Int) (ao : Option Addr) (n c b off : Nat) (l : List R) (W w : World) (hV : Vw W ao n c b off l) (hW : Below W.heap.size W w) :
    Calls Try.prog 62 #[.slice ao n c, .int .i64 y] w fun e w' => RetV W e (belowL l y) ∧ Below w.heap.size w w' := by
  have h := hV.below hW
  have HW : Hid (Vw W ao n c b off l) := hV
  clear hV hW
  have hl := vw_len h
  have hn := vw_small h
  cases l with
  | nil =>
    simp at hl
    subst hl
    go_enter Try.func62, Try.ntmps62
    go_wp2
    all_goals
      go_ret
      exact ⟨⟨_, _, _, _, _, rfl, HW.out⟩, Below.refl _ _⟩
  | cons r t =>
    have H : Hid (Vw w ao n c b off (r :: t)) := h
    obtain ⟨rfl, -, h1, -, h3⟩ := vw_at0 h
    have hz : ¬ ((n : Int) = 0) := by simp at hl; omega
    have hn0 : 0 < n := by simp at hl; omega
    have hle := h.le
    have hF : (firstL (r :: t)).length ≤ n := by rw [← hl]; exact first_le _
    clear hl h
    by_cases hy : y < r.y1
    · have E : Hid (belowL (r :: t) y = r :: t) := by show belowL (r :: t) y = _; simp [belowL, hy]
      go_enter Try.func62, Try.ntmps62
      go_wp2
      all_goals
        go_ret
        rw [E.out]
        exact ⟨⟨_, _, _, _, _, rfl, HW.out⟩, Below.refl _ _⟩
    · have E : Hid (belowL (r :: t) y = (r :: t).drop (firstL (r :: t)).length) := by show belowL (r :: t) y = _; simp [belowL, hy]
      obtain ⟨k, hk⟩ : ∃ k, k = (firstL (r :: t)).length := ⟨_, rfl⟩
      rw [← hk] at hF
      have E' : Hid (belowL (r :: t) y = (r :: t).drop k) := by rw [hk]; exact E
      have hkz : (k : Int) ≤ (n : Int) := by omega
      have K : Hid (k = (firstL (r :: t)).length) := hk
      clear hk E
      go_enter Try.func62, Try.ntmps62
      go_wp2_with (go_at_call 34; refine (first_any _ _ _ b off (r :: t) _ H.out).mono ?_; rintro e w' ⟨rfl, hb⟩; rw [← K.out])
      all_goals
        go_ret
        rw [E'.out]
      · exact ⟨⟨_, _, _, 0, 0, rfl, vw_drop0 HW.out hF (by first | assumption | omega)⟩, hb⟩
      · exact ⟨⟨_, _, _, b, off + k * 4, rfl, vw_dropS HW.out hF⟩, hb⟩

theorem edges_at : ∀ {l : List R} {i : Nat} {x : Int}, (edges l)[i]? = some x → ∃ r, l[i / 2]? = some r ∧ ((i % 2 = 0 ∧ x = r.x0) ∨ (i % 2 = 1 ∧ x = r.x1))
  | [], i, x, h => by simp [edges] at h
  | r :: t, 0, x, h => ⟨r, rfl, .inl ⟨rfl, by simp [edges] at h; exact h.symm⟩⟩
  | r :: t, 1, x, h => ⟨r, rfl, .inr ⟨rfl, by simp [edges] at h; exact h.symm⟩⟩
  | r :: t, i + 2, x, h => by
    have h' : (edges t)[i]? = some x := by simpa [edges] using h
    obtain ⟨s, hs, ho⟩ := edges_at h'
    refine ⟨s, by rw [show (i + 2) / 2 = i / 2 + 1 by omega]; simpa using hs, by omega⟩
theorem edges_len (l : List R) : (edges l).length = 2 * l.length := by
  induction l with
  | nil => rfl
  | cons r t ih => simp only [edges, List.flatMap_cons, List.length_append, List.length_cons, List.length_nil] at *; omega

theorem edge_any (i : Nat) (ao : Option Addr) (n c b off : Nat) (l : List R) (w : World) (h : Vw w ao n c b off l) (x : Int) (hx : (edges l)[i]? = some x) (hi2 : i ≤ 9223372036854775807) :
    Calls Try.prog 73 #[.slice ao n c, .int .i64 i] w fun e w' => e = .returned (.int .i64 x) ∧ Below w.heap.size w w' := by
  obtain ⟨r, hr, ho⟩ := edges_at hx
  have hlt : i / 2 < n := by rw [← vw_len h]; exact (List.getElem?_eq_some_iff.1 hr).1
  obtain ⟨rfl, h0, h1, h2, h3⟩ := vw_at h hr
  clear h hx hr
  rcases ho with ⟨hm, rfl⟩ | ⟨hm, rfl⟩
  · have hz : (i : Int) % 2 = 0 := by omega
    go_enter Try.func73, Try.ntmps73
    go_wp2
    all_goals
      go_ret
      exact ⟨rfl, by go_grown⟩
  · have hz : (i : Int) % 2 = 1 := by omega
    go_enter Try.func73, Try.ntmps73
    go_wp2
    all_goals
      go_ret
      exact ⟨rfl, by go_grown⟩
end Go.Proofs.Ytlakklpnajgjiaa
