/- Whether a list has a point, which points are wanted, and whether a list is few: contracts. -/
import Derived.Test.YteiihgoobhlkbaaDoorRgMemA
import Derived.Test.YteiihgoobhlkbaaDoorRgRect
namespace Go.Proofs.YteiihgoobhlkbaaDoor.Rg
open Num Go.RowKit
set_option linter.unusedVariables false

theorem any_step {p : R → Bool} {l : List R} {k : Nat} {r : R} (h : l[k]? = some r) : (l.drop k).any p = (p r || (l.drop (k + 1)).any p) := by
  obtain ⟨h1, rfl⟩ := List.getElem?_eq_some_iff.1 h
  rw [List.drop_eq_getElem_cons h1, List.any_cons]
theorem all_step {p : R → Bool} {l : List R} {k : Nat} {r : R} (h : l[k]? = some r) : (l.drop k).all p = (p r && (l.drop (k + 1)).all p) := by
  obtain ⟨h1, rfl⟩ := List.getElem?_eq_some_iff.1 h
  rw [List.drop_eq_getElem_cons h1, List.all_cons]

set_option maxRecDepth 100000 in
theorem refHas_any (ao : Option Addr) (n c b off : Nat) (l : List R) (x y : Int) (w : World) (h : Vw w ao n c b off l) :
    Calls Tryd.prog 28 #[.slice ao n c, .int .i64 x, .int .i64 y] w fun e w' => e = .returned (.bool (hasL l x y)) ∧ Below w.heap.size w w' := by
  have hn := vw_small h
  have H : Hid (Vw w ao n c b off l ∧ l.length = n) := ⟨h, vw_len h⟩
  clear h
  go_enter Tryd.func28, Tryd.ntmps28
  go_wp2
  go_loopg [7] n (fun g i wr => ∃ k : Nat, k ≤ n ∧ g = n - k ∧ i = .int .i64 k ∧ Below w.heap.size w wr ∧ (l.drop k).any (fun r => hasB r x y) = hasL l x y)
  case atStart => exact ⟨0, Nat.zero_le _, rfl, rfl, Below.refl _ _, rfl⟩
  case round =>
    obtain ⟨k, hk, rfl, rfl, hB, hS⟩ := hrel
    have HB := hid hB
    by_cases hlt : k < n
    · have hlz : (k : Int) < (n : Int) := by omega
      obtain ⟨r, hr⟩ : ∃ s, l[k]? = some s := ⟨_, List.getElem?_eq_getElem (by rw [H.out.2]; exact hlt)⟩
      rw [any_step hr] at hS
      have HS := hid hS
      obtain ⟨rfl, h0, h1, h2, h3⟩ := vw_at (H.out.1.below hB) hr
      clear hS hB hr
      rcases hh : hasB r x y with _ | _
      · have HH := hid hh
        clear hh
        go_wp2_with (go_at_call 54; with_reducible refine Calls.mono (Rc.has_any r.x0 r.y0 r.x1 r.y1 x y _) ?_; rintro e w1 ⟨rfl, hb⟩; have HB1 := hid (HB.out.trans (hb.mono HB.out.size)); clear hb; rw [show hasB ⟨r.x0, r.y0, r.x1, r.y1⟩ x y = false from HH.out])
        go_roundg (n - (k + 1))
        case measure => omega
        case rel => exact ⟨k + 1, hlt, rfl, by simp, HB1.out, by rw [← HS.out, HH.out, Bool.false_or]⟩
      · have HH := hid hh
        clear hh
        go_wp2_with (go_at_call 54; with_reducible refine Calls.mono (Rc.has_any r.x0 r.y0 r.x1 r.y1 x y _) ?_; rintro e w1 ⟨rfl, hb⟩; have HB1 := hid (HB.out.trans (hb.mono HB.out.size)); clear hb; rw [show hasB ⟨r.x0, r.y0, r.x1, r.y1⟩ x y = true from HH.out])
        go_ret
        exact ⟨ret_bool (by rw [← HS.out, HH.out, Bool.true_or]), HB1.out⟩
    · obtain rfl : k = n := by omega
      have HS := hid hS
      clear hS hB
      go_wp2
      go_ret
      exact ⟨ret_bool (by rw [← HS.out, List.drop_eq_nil_of_le (by rw [H.out.2]; exact Nat.le_refl _)]; rfl), HB.out⟩

theorem want_any (how : Int) (f : Bool → Bool → Bool) (hf : how = 0 ∧ f = orF ∨ how = 1 ∧ f = andF ∨ how = 2 ∧ f = cutF) (W : World) (ao : Option Addr) (n c b off : Nat) (l : List R) (ao' : Option Addr) (n' c' b' off' : Nat) (l' : List R) (x y : Int) (w : World) (h : Vw w ao n c b off l) (h' : Vw w ao' n' c' b' off' l') :
    Calls Tryd.prog 19 #[.slice ao n c, .slice ao' n' c', .int .i64 how, .int .i64 x, .int .i64 y] w fun e w' => e = .returned (.bool (wantL f l l' x y)) ∧ Below w.heap.size w w' := by
  have H : Hid (Vw w ao n c b off l ∧ Vw w ao' n' c' b' off' l') := ⟨h, h'⟩
  clear h h'
  rcases hp : hasL l x y with _ | _ <;> rcases hq : hasL l' x y with _ | _ <;> rcases hf with ⟨rfl, rfl⟩ | ⟨rfl, rfl⟩ | ⟨rfl, rfl⟩
  all_goals
    have HE := hid (And.intro hp hq)
    clear hp hq
    go_enter Tryd.func19, Tryd.ntmps19
    go_wp2_with (first
      | (go_at_call 28; with_reducible refine Calls.mono (refHas_any ao n c b off l x y w H.out.1) ?_; rintro e w1 ⟨rfl, hb⟩; rw [HE.out.1]; have HB1 := hid hb; clear hb)
      | (go_at_call 28; with_reducible refine Calls.mono (refHas_any ao' n' c' b' off' l' x y w1 (H.out.2.below HB1.out)) ?_; rintro e w2 ⟨rfl, hb⟩; rw [HE.out.2]; have HB2 := hid (HB1.out.trans (hb.mono HB1.out.size)); clear hb))
    go_ret
    exact ⟨ret_bool (by unfold wantL; rw [HE.out.1, HE.out.2]; rfl), HB2.out⟩

def fewB (l : List R) : Bool := decide (l.length ≤ 20) && l.all rightB
set_option maxRecDepth 100000 in
theorem few_any (ao : Option Addr) (n c b off : Nat) (l : List R) (w : World) (h : Vw w ao n c b off l) :
    Calls Tryd.prog 15 #[.slice ao n c] w fun e w' => e = .returned (.bool (fewB l)) ∧ Below w.heap.size w w' := by
  have hn := vw_small h
  have H : Hid (Vw w ao n c b off l ∧ l.length = n) := ⟨h, vw_len h⟩
  clear h
  by_cases h20 : 20 < n
  · have E : fewB l = false := by unfold fewB; rw [decide_eq_false (by rw [H.out.2]; omega)]; rfl
    rw [E]
    clear E
    have hz : (20 : Int) < (n : Int) := by omega
    go_enter Tryd.func15, Tryd.ntmps15
    go_wp2
    go_ret
    exact ⟨rfl, Below.refl _ _⟩
  · have E : fewB l = l.all rightB := by unfold fewB; rw [decide_eq_true (by rw [H.out.2]; omega)]; rfl
    rw [E]
    clear E
    have hz : ¬ ((20 : Int) < (n : Int)) := by omega
    go_enter Tryd.func15, Tryd.ntmps15
    go_wp2
    go_loopg [3] n (fun g i wr => ∃ k : Nat, k ≤ n ∧ g = n - k ∧ i = .int .i64 k ∧ Below w.heap.size w wr ∧ (l.drop k).all rightB = l.all rightB)
    case atStart => exact ⟨0, Nat.zero_le _, rfl, rfl, Below.refl _ _, rfl⟩
    case round =>
      obtain ⟨k, hk, rfl, rfl, hB, hS⟩ := hrel
      have HB := hid hB
      by_cases hlt : k < n
      · have hlz : (k : Int) < (n : Int) := by omega
        obtain ⟨r, hr⟩ : ∃ s, l[k]? = some s := ⟨_, List.getElem?_eq_getElem (by rw [H.out.2]; exact hlt)⟩
        rw [all_step hr] at hS
        have HS := hid hS
        obtain ⟨rfl, h0, h1, h2, h3⟩ := vw_at (H.out.1.below hB) hr
        clear hS hB hr
        rcases hh : rightB r with _ | _
        · have HH := hid hh
          clear hh
          go_wp2_with (go_at_call 26; with_reducible refine Calls.mono (Rc.right_any r.x0 r.y0 r.x1 r.y1 _) ?_; rintro e w1 ⟨rfl, hb⟩; have HB1 := hid (HB.out.trans (hb.mono HB.out.size)); clear hb; rw [show rightB ⟨r.x0, r.y0, r.x1, r.y1⟩ = false from HH.out])
          go_ret
          exact ⟨ret_bool (by rw [← HS.out, HH.out, Bool.false_and]), HB1.out⟩
        · have HH := hid hh
          clear hh
          go_wp2_with (go_at_call 26; with_reducible refine Calls.mono (Rc.right_any r.x0 r.y0 r.x1 r.y1 _) ?_; rintro e w1 ⟨rfl, hb⟩; have HB1 := hid (HB.out.trans (hb.mono HB.out.size)); clear hb; rw [show rightB ⟨r.x0, r.y0, r.x1, r.y1⟩ = true from HH.out])
          go_roundg (n - (k + 1))
          case measure => omega
          case rel => exact ⟨k + 1, hlt, rfl, by simp, HB1.out, by rw [← HS.out, HH.out, Bool.true_and]⟩
      · obtain rfl : k = n := by omega
        have HS := hid hS
        clear hS hB
        go_wp2
        go_ret
        exact ⟨ret_bool (by rw [← HS.out, List.drop_eq_nil_of_le (by rw [H.out.2]; exact Nat.le_refl _)]; rfl), HB.out⟩
end Go.Proofs.YteiihgoobhlkbaaDoor.Rg
