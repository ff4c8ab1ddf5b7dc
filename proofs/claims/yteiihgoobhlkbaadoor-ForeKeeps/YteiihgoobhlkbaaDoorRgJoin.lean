import Derived.Test.YteiihgoobhlkbaaDoorRgMemA
import Derived.WalkMore
import Derived.ScopeJumps
/- A strip's edges, merged: the contract. -/
namespace Go.Proofs.YteiihgoobhlkbaaDoor.Rg
open Num Go.RowKit
set_option linter.unusedVariables false

theorem jump_normal {l : Nat} {J : Act → World → Prop} {Q : Exit → Act → World → Prop} {a : Act} {w : World} (h : Q .normal a w) : Exit.jump l J Q .normal a w := h
def odd (i : Nat) : Bool := i % 2 == 1
theorem odd_succ (i : Nat) : odd (i + 1) = !odd i := by
  unfold odd
  rcases Nat.mod_two_eq_zero_or_one i with h | h
  · rw [show (i + 1) % 2 = 1 by omega, h]; rfl
  · rw [show (i + 1) % 2 = 0 by omega, h]; rfl
theorem odd_int (i : Nat) : (((i : Int) % 2) == 1) = odd i := by
  unfold odd
  rw [Bool.eq_iff_iff]
  simp
  omega
theorem odd_int' (i : Nat) : ((((i : Int) + 1) % 2) == 1) = odd (i + 1) := by
  unfold odd
  rw [Bool.eq_iff_iff]
  simp
  omega
theorem even_int (i : Nat) : (((i : Int) % 2) == 0) = odd (i + 1) := by
  unfold odd
  rw [Bool.eq_iff_iff]
  simp
  omega

theorem SpE.below {B : Nat} {w w' : World} {k : Nat} {y0 y1 : Int} {s : St} (h : SpE B w k y0 y1 s) (hb : Below w.heap.size w w') : SpE B w' k y0 y1 s := by
  obtain ⟨ao, n, c, b, off, h⟩ := h
  exact ⟨ao, n, c, b, off, h.five.block (hb.block _ h.five.lt), h.own.below hb, h.low, h.ne⟩

theorem pass_len (y0 y1 x : Int) (t : Bool) (s : St) : (passS y0 y1 x t s).made.length ≤ s.made.length + 1 := by
  unfold passS
  split
  · omega
  · dsimp only
    split
    · simp
    · omega

theorem merge_over (f : Bool → Bool → Bool) (y0 y1 : Int) (k : Nat) {l m : List Int} (p q : Bool) (s : St) (h : l = [] ∨ m = []) : mergeS f y0 y1 (k + 1) l p m q s = tailB f y0 y1 m q (tailA f y0 y1 l p s) := by
  rcases h with rfl | rfl
  · cases m <;> rfl
  · cases l <;> rfl

/-- what stands when a list is over -/
def Over (W : World) (q : Nat) (f : Bool → Bool → Bool) (y0 y1 : Int) (k : Nat) (ao : Option Addr) (n c : Nat) (l : List R) (ao' : Option Addr) (n' c' : Nat) (l' : List R) (M : Nat) (out : St) (a : Act) (w : World) : Prop :=
  ∃ (i j : Nat) (s : St) (u10 u11 u12 u13 u14 u15 u16 u17 u18 u19 u20 u21 u22 u23 u24 u25 u26 u27 u28 u29 u30 u31 u32 u33 u34 u35 u36 u37 u38 u39 u40 u41 u42 u43 u44 u45 u46 u47 u48 u49 u50 u51 u52 : Value), a = ⟨#[.pointer (some ⟨k, 0, none⟩), .slice ao n c, .slice ao' n' c', .func (.func q) #[] #[], undef, undef, undef, undef, .int .i64 (i : Nat), .int .i64 (j : Nat), u10, u11, u12, u13, u14, u15, u16, u17, u18, u19, u20, u21, u22, u23, u24, u25, u26, u27, u28, u29, u30, u31, u32, u33, u34, u35, u36, u37, u38, u39, u40, u41, u42, u43, u44, u45, u46, u47, u48, u49, u50, u51, u52, undef, undef, undef, undef, undef, undef, undef, undef, undef, undef, undef, undef, undef, undef, undef, undef, undef, undef, undef, undef, undef, undef, undef, undef, undef, undef, undef, undef, undef, undef, undef, undef, undef, undef], []⟩ ∧ Below W.heap.size W w ∧ SpE W.heap.size w k y0 y1 s ∧ i ≤ 2 * n ∧ j ≤ 2 * n' ∧ s.made.length + (2 * n - i) + (2 * n' - j) ≤ M ∧
    tailB f y0 y1 ((edges l').drop j) (odd j) (tailA f y0 y1 ((edges l).drop i) (odd i) s) = out

set_option maxRecDepth 100000 in
set_option maxHeartbeats 4000000 in
theorem merge_any (q : Nat) (f : Bool → Bool → Bool) (he : ∀ (args : Array Value) (w : World), (callFunc q args).run Tryd.prog w = .ok (.enter q args) w) (hq : ∀ x y w, Calls Tryd.prog q #[.bool x, .bool y] w fun e w' => e = .returned (.bool (f x y)) ∧ w' = w)
    (W : World) (ao : Option Addr) (n c b off : Nat) (l : List R) (ao' : Option Addr) (n' c' b' off' : Nat) (l' : List R) (hv : Vw W ao n c b off l) (hv' : Vw W ao' n' c' b' off' l')
    (w : World) (hW : Below W.heap.size W w) (k : Nat) (y0 y1 : Int) (s : St) (hs : SpE W.heap.size w k y0 y1 s) (M : Nat) (hM : s.made.length + 2 * n + 2 * n' ≤ M) (hM' : M < 4000000000000) (out : St)
    (ho : mergeS f y0 y1 (2 * n + 2 * n' + 1) (edges l) false (edges l') false s = out) :
    Calls Tryd.prog 80 #[.pointer (some ⟨k, 0, none⟩), .slice ao n c, .slice ao' n' c', .func (.func q) #[] #[]] w fun e w' => e = .returned (.tuple #[]) ∧ SpE W.heap.size w' k y0 y1 out ∧ Below W.heap.size W w' := by
  have hl := vw_len hv
  have hl' := vw_len hv'
  have H : Hid (Vw W ao n c b off l ∧ Vw W ao' n' c' b' off' l' ∧ (edges l).length = 2 * n ∧ (edges l').length = 2 * n') := ⟨hv, hv', by rw [edges_len, hl], by rw [edges_len, hl']⟩
  have HQ : Hid (∀ x y w, Calls Tryd.prog q #[.bool x, .bool y] w fun e w' => e = .returned (.bool (f x y)) ∧ w' = w) := hq
  have S0 : Hid (Below W.heap.size W w ∧ SpE W.heap.size w k y0 y1 s ∧ s.made.length + 2 * n + 2 * n' ≤ M ∧ mergeS f y0 y1 (2 * n + 2 * n' + 1) (edges l) false (edges l') false s = out) := ⟨hW, hs, hM, ho⟩
  have hn : n < 4000000000000 := by omega
  have hn' : n' < 4000000000000 := by omega
  clear hv hv' hl hl' hq hW hs hM ho
  go_enter Tryd.func80, Tryd.ntmps80
  refine wp_scope_jumps 0 (Over W q f y0 y1 k ao n c l ao' n' c' l' M out) (fun _ _ => 0) rfl ?first ?pass
  case first =>
    go_wp2
    go_loopg [8, 9] (2 * n + 2 * n') (fun g vi vj wr => ∃ (i j fu : Nat) (s : St), vi = .int .i64 i ∧ vj = .int .i64 j ∧ i ≤ 2 * n ∧ j ≤ 2 * n' ∧ g = (2 * n - i) + (2 * n' - j) ∧ Below W.heap.size W wr ∧ SpE W.heap.size wr k y0 y1 s ∧ s.made.length + (2 * n - i) + (2 * n' - j) ≤ M ∧ (2 * n - i) + (2 * n' - j) < fu ∧ mergeS f y0 y1 fu ((edges l).drop i) (odd i) ((edges l').drop j) (odd j) s = out)
    case atStart =>
      obtain ⟨h1, h2, h3, h4⟩ := S0.out
      exact ⟨0, 0, 2 * n + 2 * n' + 1, s, rfl, rfl, Nat.zero_le _, Nat.zero_le _, by simp, h1, h2, by omega, by omega, by simpa [odd] using h4⟩
    case round =>
      obtain ⟨i, j, fu, s1, rfl, rfl, hi, hj, rfl, hB, hs, hM, hfu, hm⟩ := hrel
      obtain ⟨g, rfl⟩ : ∃ g, fu = g + 1 := ⟨fu - 1, by omega⟩
      clear S0
      have HM : Hid (mergeS f y0 y1 (g + 1) ((edges l).drop i) (odd i) ((edges l').drop j) (odd j) s1 = out) := hm
      have HS : Hid (Below W.heap.size W wr ∧ SpE W.heap.size wr k y0 y1 s1) := ⟨hB, hs⟩
      clear hm hB hs
      by_cases hover : i = 2 * n ∨ j = 2 * n'
      · have hgo : ∀ (a : Act), a.tmps = a.tmps → True := fun _ _ => trivial
        by_cases hi2 : i = 2 * n
        · have d1 : ((i : Int) == 2 * (n : Int)) = true := by simp; omega
          clear hover hgo
          go_wp2
          go_step3
          refine ⟨rfl, i, j, s1, _, _, _, _, _, _, _, _, _, _, _, _, _, _, _, _, _, _, _, _, _, _, _, _, _, _, _, _, _, _, _, _, _, _, _, _, _, _, _, _, _, _, _, rfl, HS.out.1, HS.out.2, hi, hj, hM, ?_⟩
          rw [← HM.out]
          exact (merge_over f y0 y1 _ _ _ _ (.inl (List.drop_eq_nil_of_le (by rw [H.out.2.2.1]; omega)))).symm
        · have hj2 : j = 2 * n' := by omega
          have d1 : ((i : Int) == 2 * (n : Int)) = false := by simp; omega
          have d2 : ((j : Int) == 2 * (n' : Int)) = true := by simp; omega
          clear hover hgo
          go_wp2
          go_step3
          refine ⟨rfl, i, j, s1, _, _, _, _, _, _, _, _, _, _, _, _, _, _, _, _, _, _, _, _, _, _, _, _, _, _, _, _, _, _, _, _, _, _, _, _, _, _, _, _, _, _, _, rfl, HS.out.1, HS.out.2, hi, hj, hM, ?_⟩
          rw [← HM.out]
          exact (merge_over f y0 y1 _ _ _ _ (.inr (List.drop_eq_nil_of_le (by rw [H.out.2.2.2]; omega)))).symm
      · have hi3 : i < 2 * n := by omega
        have hj3 : j < 2 * n' := by omega
        clear hover
        have d1 : ((i : Int) == 2 * (n : Int)) = false := by simp; omega
        have d2 : ((j : Int) == 2 * (n' : Int)) = false := by simp; omega
        have hi9 : i ≤ 9223372036854775807 := by omega
        have hj9 : j ≤ 9223372036854775807 := by omega
        have hlen : s1.made.length < 4000000000000 := by omega
        obtain ⟨x, hx0⟩ : ∃ x, (edges l)[i]? = some x := ⟨_, List.getElem?_eq_getElem (by rw [H.out.2.2.1]; exact hi3)⟩
        obtain ⟨z, hz0⟩ : ∃ x, (edges l')[j]? = some x := ⟨_, List.getElem?_eq_getElem (by rw [H.out.2.2.2]; exact hj3)⟩
        have hx : Hid ((edges l)[i]? = some x) := hx0
        have hz : Hid ((edges l')[j]? = some z) := hz0
        have dx : (edges l).drop i = x :: (edges l).drop (i + 1) := by
          obtain ⟨h1, h2⟩ := List.getElem?_eq_some_iff.1 hx0
          rw [List.drop_eq_getElem_cons h1, h2]
        have dz : (edges l').drop j = z :: (edges l').drop (j + 1) := by
          obtain ⟨h1, h2⟩ := List.getElem?_eq_some_iff.1 hz0
          rw [List.drop_eq_getElem_cons h1, h2]
        have hm := HM.out
        rw [dx, dz] at hm
        clear HM hx0 hz0
        have o1 := odd_int i
        have o2 := odd_int j
        have o3 := odd_int' i
        have o4 := odd_int' j
        have HZ : Hid ((edges l').drop j = z :: (edges l').drop (j + 1)) := dz
        have HX : Hid ((edges l).drop i = x :: (edges l).drop (i + 1)) := dx
        rcases Int.lt_trichotomy x z with hxz | hxz | hxz
        · have hle : x ≤ z := by omega
          have hnle : ¬ z ≤ x := by omega
          have hmin : mn x z = x := by unfold mn; omega
          have HM : Hid _ := hm
          clear hm dx dz
          go_wp2_with (first
            | (go_at_call 89; have C := edge_any i ao n c b off l wr (H.out.1.below HS.out.1) x hx.out hi9; with_reducible refine Calls.mono C ?_; clear C; rintro e w1 ⟨rfl, hb1⟩; have HS1 : Hid (Below W.heap.size W w1 ∧ SpE W.heap.size w1 k y0 y1 s1) := hid ⟨HS.out.1.trans (hb1.mono HS.out.1.size), HS.out.2.below hb1⟩; clear hb1)
            | (go_at_call 89; have C := edge_any j ao' n' c' b' off' l' w1 (H.out.2.1.below HS1.out.1) z hz.out hj9; with_reducible refine Calls.mono C ?_; clear C; rintro e w2 ⟨rfl, hb2⟩; have HS2 : Hid (Below W.heap.size W w2 ∧ SpE W.heap.size w2 k y0 y1 s1) := hid ⟨HS1.out.1.trans (hb2.mono HS1.out.1.size), HS1.out.2.below hb2⟩; clear hb2)
            | (with_reducible refine Calls.mono (HQ.out _ _ _) ?_; rintro e w3 ⟨rfl, hw3⟩; replace hw3 := hw3.symm; subst hw3)
            | (go_at_call 90; with_reducible refine Calls.mono (pass_any W.heap.size w2 k y0 y1 _ _ s1 HS2.out.2 hlen) ?_; rintro e w4 ⟨rfl, hs4, hb4⟩; have HS4 := hid hs4; have HB4 := hid (HS2.out.1.trans hb4); clear hs4 hb4))
          go_roundg ((2 * n - (i + 1)) + (2 * n' - j))
          case measure => omega
          case rel =>
            refine ⟨(i + 1), j, g, _, by simp, by simp, by omega, by omega, rfl, HB4.out, HS4.out, ?_, by omega, ?_⟩
            · have := pass_len y0 y1 x (f (odd (i + 1)) (odd j)) s1
              omega
            · rw [← HM.out]
              show _ = (if x < z then _ else _)
              rw [if_pos hxz, odd_succ, HZ.out]
        · subst hxz
          have hle : x ≤ x := Int.le_refl x
          have HM : Hid _ := hm
          clear hm dx dz
          go_wp2_with (first
            | (go_at_call 89; have C := edge_any i ao n c b off l wr (H.out.1.below HS.out.1) x hx.out hi9; with_reducible refine Calls.mono C ?_; clear C; rintro e w1 ⟨rfl, hb1⟩; have HS1 : Hid (Below W.heap.size W w1 ∧ SpE W.heap.size w1 k y0 y1 s1) := hid ⟨HS.out.1.trans (hb1.mono HS.out.1.size), HS.out.2.below hb1⟩; clear hb1)
            | (go_at_call 89; have C := edge_any j ao' n' c' b' off' l' w1 (H.out.2.1.below HS1.out.1) x hz.out hj9; with_reducible refine Calls.mono C ?_; clear C; rintro e w2 ⟨rfl, hb2⟩; have HS2 : Hid (Below W.heap.size W w2 ∧ SpE W.heap.size w2 k y0 y1 s1) := hid ⟨HS1.out.1.trans (hb2.mono HS1.out.1.size), HS1.out.2.below hb2⟩; clear hb2)
            | (with_reducible refine Calls.mono (HQ.out _ _ _) ?_; rintro e w3 ⟨rfl, hw3⟩; replace hw3 := hw3.symm; subst hw3)
            | (go_at_call 90; with_reducible refine Calls.mono (pass_any W.heap.size w2 k y0 y1 _ _ s1 HS2.out.2 hlen) ?_; rintro e w4 ⟨rfl, hs4, hb4⟩; have HS4 := hid hs4; have HB4 := hid (HS2.out.1.trans hb4); clear hs4 hb4))
          go_roundg ((2 * n - (i + 1)) + (2 * n' - (j + 1)))
          case measure => omega
          case rel =>
            refine ⟨(i + 1), (j + 1), g, _, by simp, by simp, by omega, by omega, rfl, HB4.out, HS4.out, ?_, by omega, ?_⟩
            · have := pass_len y0 y1 x (f (odd (i + 1)) (odd (j + 1))) s1
              omega
            · rw [← HM.out]
              show _ = (if x < x then _ else if x < x then _ else _)
              rw [if_neg (by omega), if_neg (by omega), odd_succ, odd_succ]
        · have hle : z ≤ x := by omega
          have hnle : ¬ x ≤ z := by omega
          have HM : Hid _ := hm
          clear hm dx dz
          go_wp2_with (first
            | (go_at_call 89; have C := edge_any i ao n c b off l wr (H.out.1.below HS.out.1) x hx.out hi9; with_reducible refine Calls.mono C ?_; clear C; rintro e w1 ⟨rfl, hb1⟩; have HS1 : Hid (Below W.heap.size W w1 ∧ SpE W.heap.size w1 k y0 y1 s1) := hid ⟨HS.out.1.trans (hb1.mono HS.out.1.size), HS.out.2.below hb1⟩; clear hb1)
            | (go_at_call 89; have C := edge_any j ao' n' c' b' off' l' w1 (H.out.2.1.below HS1.out.1) z hz.out hj9; with_reducible refine Calls.mono C ?_; clear C; rintro e w2 ⟨rfl, hb2⟩; have HS2 : Hid (Below W.heap.size W w2 ∧ SpE W.heap.size w2 k y0 y1 s1) := hid ⟨HS1.out.1.trans (hb2.mono HS1.out.1.size), HS1.out.2.below hb2⟩; clear hb2)
            | (with_reducible refine Calls.mono (HQ.out _ _ _) ?_; rintro e w3 ⟨rfl, hw3⟩; replace hw3 := hw3.symm; subst hw3)
            | (go_at_call 90; with_reducible refine Calls.mono (pass_any W.heap.size w2 k y0 y1 _ _ s1 HS2.out.2 hlen) ?_; rintro e w4 ⟨rfl, hs4, hb4⟩; have HS4 := hid hs4; have HB4 := hid (HS2.out.1.trans hb4); clear hs4 hb4))
          go_roundg ((2 * n - i) + (2 * n' - (j + 1)))
          case measure => omega
          case rel =>
            refine ⟨i, (j + 1), g, _, by simp, by simp, by omega, by omega, rfl, HB4.out, HS4.out, ?_, by omega, ?_⟩
            · have := pass_len y0 y1 z (f (odd i) (odd (j + 1))) s1
              omega
            · rw [← HM.out]
              show _ = (if x < z then _ else if z < x then _ else _)
              rw [if_neg (by omega), if_pos hxz, odd_succ, HX.out]
  case pass =>
    intro a w ⟨i, j, s1, u10, u11, u12, u13, u14, u15, u16, u17, u18, u19, u20, u21, u22, u23, u24, u25, u26, u27, u28, u29, u30, u31, u32, u33, u34, u35, u36, u37, u38, u39, u40, u41, u42, u43, u44, u45, u46, u47, u48, u49, u50, u51, u52, ea, hB, hs, hi, hj, hM, ho⟩
    subst ea
    clear S0
    have HS : Hid (Below W.heap.size W w ∧ SpE W.heap.size w k y0 y1 s1 ∧ tailB f y0 y1 ((edges l').drop j) (odd j) (tailA f y0 y1 ((edges l).drop i) (odd i) s1) = out) := ⟨hB, hs, ho⟩
    clear hB hs ho
    go_wp2
    go_loopg [8] (2 * n - i) (fun g vi wr => ∃ (i : Nat) (s : St), vi = .int .i64 i ∧ i ≤ 2 * n ∧ g = 2 * n - i ∧ Below W.heap.size W wr ∧ SpE W.heap.size wr k y0 y1 s ∧ s.made.length + (2 * n - i) + (2 * n' - j) ≤ M ∧ tailB f y0 y1 ((edges l').drop j) (odd j) (tailA f y0 y1 ((edges l).drop i) (odd i) s) = out)
    case atStart => exact ⟨i, s1, rfl, hi, rfl, HS.out.1, HS.out.2.1, hM, HS.out.2.2⟩
    case round =>
      clear HS hM hi
      clear s1 i
      obtain ⟨i, s1, rfl, hi, rfl, hB, hs, hM, ho⟩ := hrel
      have HS : Hid (Below W.heap.size W wr ∧ SpE W.heap.size wr k y0 y1 s1) := ⟨hB, hs⟩
      have HO : Hid (tailB f y0 y1 ((edges l').drop j) (odd j) (tailA f y0 y1 ((edges l).drop i) (odd i) s1) = out) := ho
      clear hB hs ho
      by_cases hi2 : i < 2 * n
      · have hi9 : i ≤ 9223372036854775807 := by omega
        have hlen : s1.made.length < 4000000000000 := by omega
        obtain ⟨x, hx0⟩ : ∃ x, (edges l)[i]? = some x := ⟨_, List.getElem?_eq_getElem (by rw [H.out.2.2.1]; exact hi2)⟩
        have hx : Hid ((edges l)[i]? = some x) := hx0
        have HX : Hid ((edges l).drop i = x :: (edges l).drop (i + 1)) := by
          obtain ⟨h1, h2⟩ := List.getElem?_eq_some_iff.1 hx0
          show _ = _
          rw [List.drop_eq_getElem_cons h1, h2]
        have d1 : (i : Int) < 2 * (n : Int) := by omega
        have o1 := even_int i
        clear hx0
        go_wp2_with (first
            | (go_at_call 89; have C := edge_any i ao n c b off l wr (H.out.1.below HS.out.1) x hx.out hi9; with_reducible refine Calls.mono C ?_; clear C; rintro e w1 ⟨rfl, hb1⟩; have HS1 : Hid (Below W.heap.size W w1 ∧ SpE W.heap.size w1 k y0 y1 s1) := hid ⟨HS.out.1.trans (hb1.mono HS.out.1.size), HS.out.2.below hb1⟩; clear hb1)
            | (with_reducible refine Calls.mono (HQ.out _ _ _) ?_; rintro e w3 ⟨rfl, hw3⟩; replace hw3 := hw3.symm; subst hw3)
            | (go_at_call 90; with_reducible refine Calls.mono (pass_any W.heap.size w1 k y0 y1 _ _ s1 HS1.out.2 hlen) ?_; rintro e w4 ⟨rfl, hs4, hb4⟩; have HS4 := hid hs4; have HB4 := hid (HS1.out.1.trans hb4); clear hs4 hb4))
        go_roundg (2 * n - (i + 1))
        case measure => omega
        case rel =>
          refine ⟨i + 1, _, by simp, by omega, rfl, HB4.out, HS4.out, ?_, ?_⟩
          · have := pass_len y0 y1 x (f (odd (i + 1)) false) s1
            omega
          · rw [← HO.out, HX.out, odd_succ]
            rfl
      · obtain rfl : i = 2 * n := by omega
        have d1 : ¬ (((2 * n : Nat) : Int) < 2 * (n : Int)) := by omega
        have HT : Hid (tailB f y0 y1 ((edges l').drop j) (odd j) s1 = out) := by
          have := HO.out
          have e0 : (edges l).drop (2 * n) = [] := List.drop_eq_nil_of_le (by rw [H.out.2.2.1]; omega)
          rw [e0] at this
          exact this
        clear HO
        go_wp2
        go_loopg [9] (2 * n' - j) (fun g vj wr => ∃ (j : Nat) (s : St), vj = .int .i64 j ∧ j ≤ 2 * n' ∧ g = 2 * n' - j ∧ Below W.heap.size W wr ∧ SpE W.heap.size wr k y0 y1 s ∧ s.made.length + (2 * n' - j) ≤ M ∧ tailB f y0 y1 ((edges l').drop j) (odd j) s = out)
        case atStart => exact ⟨j, s1, rfl, hj, rfl, HS.out.1, HS.out.2, by omega, HT.out⟩
        case round =>
          clear HS HT hM
          obtain ⟨j2, s2, rfl, hj2', rfl, hB, hs, hM, ho⟩ := hrel
          have HS : Hid (Below W.heap.size W wr ∧ SpE W.heap.size wr k y0 y1 s2) := ⟨hB, hs⟩
          have HO : Hid (tailB f y0 y1 ((edges l').drop j2) (odd j2) s2 = out) := ho
          clear hB hs ho
          by_cases hjj : j2 < 2 * n'
          · have hj9 : j2 ≤ 9223372036854775807 := by omega
            have hlen : s2.made.length < 4000000000000 := by omega
            obtain ⟨x, hx0⟩ : ∃ x, (edges l')[j2]? = some x := ⟨_, List.getElem?_eq_getElem (by rw [H.out.2.2.2]; exact hjj)⟩
            have hx : Hid ((edges l')[j2]? = some x) := hx0
            have HX : Hid ((edges l').drop j2 = x :: (edges l').drop (j2 + 1)) := by
              obtain ⟨h1, h2⟩ := List.getElem?_eq_some_iff.1 hx0
              show _ = _
              rw [List.drop_eq_getElem_cons h1, h2]
            have d2 : (j2 : Int) < 2 * (n' : Int) := by omega
            have o1 := even_int j2
            clear hx0
            go_wp2_with (first
              | (go_at_call 89; have C := edge_any j2 ao' n' c' b' off' l' wr (H.out.2.1.below HS.out.1) x hx.out hj9; with_reducible refine Calls.mono C ?_; clear C; rintro e w1 ⟨rfl, hb1⟩; have HS1 : Hid (Below W.heap.size W w1 ∧ SpE W.heap.size w1 k y0 y1 s2) := hid ⟨HS.out.1.trans (hb1.mono HS.out.1.size), HS.out.2.below hb1⟩; clear hb1)
              | (with_reducible refine Calls.mono (HQ.out _ _ _) ?_; rintro e w3 ⟨rfl, hw3⟩; replace hw3 := hw3.symm; subst hw3)
              | (go_at_call 90; with_reducible refine Calls.mono (pass_any W.heap.size w1 k y0 y1 _ _ s2 HS1.out.2 hlen) ?_; rintro e w4 ⟨rfl, hs4, hb4⟩; have HS4 := hid hs4; have HB4 := hid (HS1.out.1.trans hb4); clear hs4 hb4))
            go_roundg (2 * n' - (j2 + 1))
            case measure => omega
            case rel =>
              refine ⟨j2 + 1, _, by simp, by omega, rfl, HB4.out, HS4.out, ?_, ?_⟩
              · have := pass_len y0 y1 x (f false (odd (j2 + 1))) s2
                omega
              · rw [← HO.out, HX.out, odd_succ]
                rfl
          · obtain rfl : j2 = 2 * n' := by omega
            have d2 : ¬ (((2 * n' : Nat) : Int) < 2 * (n' : Int)) := by omega
            go_wp2
            refine jump_normal ?_
            go_end0
            have e0 : (edges l').drop (2 * n') = [] := List.drop_eq_nil_of_le (by rw [H.out.2.2.2]; omega)
            have := HO.out
            rw [e0] at this
            rw [← this]
            exact ⟨rfl, HS.out.2, HS.out.1⟩
end Go.Proofs.YteiihgoobhlkbaaDoor.Rg
/- Two regions put together: the contract. -/
namespace Go.Proofs.YteiihgoobhlkbaaDoor.Rg
open Num Go.RowKit
set_option linter.unusedVariables false

theorem run_min_i64 (w : World) (ts : Array TypeId) (t : TypeId) (a b : Int) : (Builtin.min_ ts t #[.int .i64 a, .int .i64 b]).run Tryd.prog w = .ok (.int .i64 (mn a b)) w := by
  simp only [Builtin.min_, List.foldlM, Builtin.min2]
  unfold mn
  by_cases c : a < b
  · rw [Int.min_eq_left (by omega)]; simp; omega
  · rw [Int.min_eq_right (by omega)]; simp; omega
theorem run_max_i64 (w : World) (ts : Array TypeId) (t : TypeId) (a b : Int) : (Builtin.max_ ts t #[.int .i64 a, .int .i64 b]).run Tryd.prog w = .ok (.int .i64 (mx a b)) w := by
  simp only [Builtin.max_, List.foldlM, Builtin.max2]
  unfold mx
  by_cases c : a < b
  · rw [Int.max_eq_right (by omega)]; simp; omega
  · rw [Int.max_eq_left (by omega)]; simp; omega
attribute [local go_sem ↓] run_min_i64 run_max_i64

theorem tailA_len (f : Bool → Bool → Bool) (y0 y1 : Int) : ∀ (l : List Int) (p : Bool) (s : St), (tailA f y0 y1 l p s).made.length ≤ s.made.length + l.length
  | [], p, s => Nat.le_refl _
  | x :: l, p, s => by
    have h1 := tailA_len f y0 y1 l (!p) (passS y0 y1 x (f (!p) false) s)
    have h2 := pass_len y0 y1 x (f (!p) false) s
    simp only [tailA, List.length_cons]
    omega
theorem tailB_len (f : Bool → Bool → Bool) (y0 y1 : Int) : ∀ (l : List Int) (p : Bool) (s : St), (tailB f y0 y1 l p s).made.length ≤ s.made.length + l.length
  | [], p, s => Nat.le_refl _
  | x :: l, p, s => by
    have h1 := tailB_len f y0 y1 l (!p) (passS y0 y1 x (f false (!p)) s)
    have h2 := pass_len y0 y1 x (f false (!p)) s
    simp only [tailB, List.length_cons]
    omega
theorem merge_len (f : Bool → Bool → Bool) (y0 y1 : Int) : ∀ (k : Nat) (l : List Int) (p : Bool) (m : List Int) (q : Bool) (s : St), (mergeS f y0 y1 k l p m q s).made.length ≤ s.made.length + l.length + m.length
  | 0, l, p, m, q, s => by simp only [mergeS]; omega
  | k + 1, [], p, m, q, s => by
    have := tailB_len f y0 y1 m q s
    rw [merge_over f y0 y1 k p q s (.inl rfl)]
    simp only [tailA, List.length_nil]
    omega
  | k + 1, x :: l, p, [], q, s => by
    have := tailA_len f y0 y1 (x :: l) p s
    rw [merge_over f y0 y1 k p q s (.inr rfl)]
    simp only [tailB, List.length_nil]
    omega
  | k + 1, x :: l, p, z :: m, q, s => by
    unfold mergeS
    split
    · have h1 := merge_len f y0 y1 k l (!p) (z :: m) q (passS y0 y1 x (f (!p) q) s)
      have h2 := pass_len y0 y1 x (f (!p) q) s
      simp only [List.length_cons] at *
      omega
    · split
      · have h1 := merge_len f y0 y1 k (x :: l) p m (!q) (passS y0 y1 z (f p (!q)) s)
        have h2 := pass_len y0 y1 z (f p (!q)) s
        simp only [List.length_cons] at *
        omega
      · have h1 := merge_len f y0 y1 k l (!p) m (!q) (passS y0 y1 x (f (!p) (!q)) s)
        have h2 := pass_len y0 y1 x (f (!p) (!q)) s
        simp only [List.length_cons] at *
        omega
theorem setY1_len (a b : List R) : (setY1 a b).length = min a.length b.length := by unfold setY1; exact List.length_zipWith
theorem settle_len (l : List R) {last at' : Nat} (h1 : last ≤ at') (h2 : at' ≤ l.length) : (settleL l last at').1.length ≤ l.length ∧ (settleL l last at').2 ≤ (settleL l last at').1.length := by
  unfold settleL
  split
  · exact ⟨Nat.le_refl _, by dsimp only; omega⟩
  · split
    · dsimp only
      rw [List.length_append, List.length_take, setY1_len, List.length_drop, List.length_take, List.length_drop]
      omega
    · exact ⟨Nat.le_refl _, h2⟩
theorem pass_grow (y0 y1 x : Int) (t : Bool) (s : St) : s.made.length ≤ (passS y0 y1 x t s).made.length := by
  unfold passS
  split
  · omega
  · dsimp only
    split
    · simp
    · omega
theorem tailA_grow (f : Bool → Bool → Bool) (y0 y1 : Int) : ∀ (l : List Int) (p : Bool) (s : St), s.made.length ≤ (tailA f y0 y1 l p s).made.length
  | [], p, s => Nat.le_refl _
  | x :: l, p, s => Nat.le_trans (pass_grow y0 y1 x _ s) (tailA_grow f y0 y1 l (!p) _)
theorem tailB_grow (f : Bool → Bool → Bool) (y0 y1 : Int) : ∀ (l : List Int) (p : Bool) (s : St), s.made.length ≤ (tailB f y0 y1 l p s).made.length
  | [], p, s => Nat.le_refl _
  | x :: l, p, s => Nat.le_trans (pass_grow y0 y1 x _ s) (tailB_grow f y0 y1 l (!p) _)
theorem merge_grow (f : Bool → Bool → Bool) (y0 y1 : Int) : ∀ (k : Nat) (l : List Int) (p : Bool) (m : List Int) (q : Bool) (s : St), s.made.length ≤ (mergeS f y0 y1 k l p m q s).made.length
  | 0, l, p, m, q, s => Nat.le_refl _
  | k + 1, [], p, m, q, s => by rw [merge_over f y0 y1 k p q s (.inl rfl)]; exact tailB_grow f y0 y1 m q s
  | k + 1, x :: l, p, [], q, s => by rw [merge_over f y0 y1 k p q s (.inr rfl)]; exact tailA_grow f y0 y1 (x :: l) p s
  | k + 1, x :: l, p, z :: m, q, s => by
    unfold mergeS
    split
    · exact Nat.le_trans (pass_grow y0 y1 x _ s) (merge_grow f y0 y1 k _ _ _ _ _)
    · split
      · exact Nat.le_trans (pass_grow y0 y1 z _ s) (merge_grow f y0 y1 k _ _ _ _ _)
      · exact Nat.le_trans (pass_grow y0 y1 x _ s) (merge_grow f y0 y1 k _ _ _ _ _)
theorem band_len (a : List R) (y : Int) : (bandL a y).length ≤ a.length := by
  unfold bandL
  split
  · simp
  · split
    · simp
    · exact first_le _
theorem below_len (a : List R) (y : Int) : (belowL a y).length ≤ a.length := by
  unfold belowL
  split
  · simp
  · split
    · simp
    · rw [List.length_drop]; omega

theorem retV {w : World} {e : Ending} {l : List R} (h : RetV w e l) : ∃ ao n c b off, e = .returned (.slice ao n c) ∧ Vw w ao n c b off l := h
theorem retO {B : Nat} {w : World} {e : Ending} {l : List R} (h : RetO B w e l) : ∃ ao n c b off, e = .returned (.slice ao n c) ∧ Ow B w ao n c b off l := h
theorem retT {B : Nat} {w : World} {e : Ending} {l : List R} {k : Nat} (h : RetT B w e l k) : ∃ ao n c b off, e = .returned (.tuple #[.slice ao n c, .int .i64 k]) ∧ Ow B w ao n c b off l := h
theorem spE {B : Nat} {w : World} {k : Nat} {y0 y1 : Int} {s : St} (h : SpE B w k y0 y1 s) : ∃ ao n c b off, Sp B w k y0 y1 s ao n c b off := h
theorem le_of_eq' {a b c : Nat} (h : a ≤ b) (e : b = c) : a ≤ c := e ▸ h
theorem settle_at {made : List R} {m m2 : Nat} (h : made.length = m) {w : World} {ao : Option Addr} {c b off : Nat} {f : Bool → Bool → Bool} {y0 y1 : Int} {k : Nat} {l' : List Int} {p : Bool} {m' : List Int} {q : Bool} (hv : Vw w ao m2 c b off (mergeS f y0 y1 k l' p m' q ⟨made, false, 0⟩).made) : m ≤ m2 := by
  rw [← h, ← vw_len hv]
  exact merge_grow f y0 y1 k l' p m' q ⟨made, false, 0⟩
theorem comb_step {f : Bool → Bool → Bool} {g : Nat} {la lb : List R} {y : Int} {last : Nat} {made out : List R} (h : combL f (g + 1) la lb y last made = some out) (hd : ¬ (la = [] ∧ lb = [])) {n3 n4 m : Nat} (h3 : (bandL la y).length = n3) (h4 : (bandL lb y).length = n4) (hm : made.length = m) :
    combL f g (belowL la (mn (nextE la y) (nextE lb y))) (belowL lb (mn (nextE la y) (nextE lb y))) (mn (nextE la y) (nextE lb y))
      (settleL (mergeS f y (mn (nextE la y) (nextE lb y)) (2 * n3 + 2 * n4 + 1) (edges (bandL la y)) false (edges (bandL lb y)) false ⟨made, false, 0⟩).made last m).2
      (settleL (mergeS f y (mn (nextE la y) (nextE lb y)) (2 * n3 + 2 * n4 + 1) (edges (bandL la y)) false (edges (bandL lb y)) false ⟨made, false, 0⟩).made last m).1 = some out := by
  subst h3 h4 hm
  unfold combL at h
  rw [if_neg hd] at h
  simp only [edges_len] at h
  exact h
/-- no band has more -/
def Wd (N : Nat) (l : List R) : Prop := ∀ k, (firstL (l.drop k)).length ≤ N
theorem wd_band {N : Nat} {l : List R} (h : Wd N l) (y : Int) : (bandL l y).length ≤ N := by
  unfold bandL
  split
  · simp
  · rename_i r t
    split
    · simp
    · exact h 0
theorem wd_below {N : Nat} {l : List R} (h : Wd N l) (y : Int) : Wd N (belowL l y) := by
  unfold belowL
  split
  · exact h
  · rename_i r t
    split
    · exact h
    · intro k
      rw [List.drop_drop]
      exact h _
theorem wd_len (l : List R) : Wd l.length l := fun k => Nat.le_trans (first_le _) (by rw [List.length_drop]; omega)
theorem comb_made {f : Bool → Bool → Bool} {g T N N' : Nat} {la lb : List R} {y z : Int} {last : Nat} {made : List R} {n3 n4 m : Nat} (h3 : (bandL la y).length = n3) (h4 : (bandL lb y).length = n4) (hm : made.length = m) (hl : last ≤ made.length)
    (hT : Wd N la ∧ Wd N' lb ∧ 2 * (N + N') ≤ T) (hM : made.length + (g * T + T) ≤ 4000000000000 - 1) :
    (settleL (mergeS f y z (2 * n3 + 2 * n4 + 1) (edges (bandL la y)) false (edges (bandL lb y)) false ⟨made, false, 0⟩).made last m).2 ≤
      (settleL (mergeS f y z (2 * n3 + 2 * n4 + 1) (edges (bandL la y)) false (edges (bandL lb y)) false ⟨made, false, 0⟩).made last m).1.length ∧
    (settleL (mergeS f y z (2 * n3 + 2 * n4 + 1) (edges (bandL la y)) false (edges (bandL lb y)) false ⟨made, false, 0⟩).made last m).1.length + g * T ≤ 4000000000000 - 1 := by
  subst hm
  have h1 := merge_grow f y z (2 * n3 + 2 * n4 + 1) (edges (bandL la y)) false (edges (bandL lb y)) false ⟨made, false, 0⟩
  have h2 := merge_len f y z (2 * n3 + 2 * n4 + 1) (edges (bandL la y)) false (edges (bandL lb y)) false ⟨made, false, 0⟩
  have h5 := settle_len (mergeS f y z (2 * n3 + 2 * n4 + 1) (edges (bandL la y)) false (edges (bandL lb y)) false ⟨made, false, 0⟩).made hl h1
  have h6 := wd_band hT.1 y
  have h7 := wd_band hT.2.1 y
  rw [edges_len, edges_len] at h2
  dsimp only at h1 h2
  exact ⟨h5.2, by omega⟩
theorem comb_bd {m g T na nb N N' : Nat} {la lb : List R} {y : Int} (h1 : m + (g * T + T) ≤ 4000000000000 - 1) (h2 : Wd N la ∧ Wd N' lb ∧ 2 * (N + N') ≤ T) (h3 : (bandL la y).length = na) (h4 : (bandL lb y).length = nb) : m + 2 * na + 2 * nb < 4000000000000 := by
  have h5 := wd_band h2.1 y
  have h6 := wd_band h2.2.1 y
  have h7 : 0 ≤ g * T := Nat.zero_le _
  omega

/-- two lists can be put together within what there is: by so many strips, by so wide bands -/
def Cf (f : Bool → Bool → Bool) (l l' out : List R) : Prop := ∃ G N N', combL f G l l' (-9223372036854775808) 0 [] = some out ∧ Wd N l ∧ Wd N' l' ∧ G * (2 * (N + N')) ≤ 4000000000000 - 1
theorem cf_small {f : Bool → Bool → Bool} {l l' out : List R} (h : l.length + l'.length ≤ 900000) (ho : comb f l l' = some out) : Cf f l l' out := by
  refine ⟨_, _, _, ho, wd_len l, wd_len l', ?_⟩
  have h1 : (2 * (l.length + l'.length) + 1) * (2 * (l.length + l'.length)) ≤ 1800001 * 1800000 := Nat.mul_le_mul (by omega) (by omega)
  omega

set_option maxRecDepth 100000 in
set_option maxHeartbeats 4000000 in
theorem combine_any (q : Nat) (f : Bool → Bool → Bool) (he : ∀ (args : Array Value) (w : World), (callFunc q args).run Tryd.prog w = .ok (.enter q args) w) (hq : ∀ x y w, Calls Tryd.prog q #[.bool x, .bool y] w fun e w' => e = .returned (.bool (f x y)) ∧ w' = w)
    (W : World) (ao : Option Addr) (n c b off : Nat) (l : List R) (ao' : Option Addr) (n' c' b' off' : Nat) (l' : List R) (hv : Vw W ao n c b off l) (hv' : Vw W ao' n' c' b' off' l')
    (out : List R) (hcf : Cf f l l' out) :
    Calls Tryd.prog 62 #[.slice ao n c, .slice ao' n' c', .func (.func q) #[] #[]] W fun e w' => RetO W.heap.size w' e out ∧ Below W.heap.size W w' := by
  have HV : Hid (Vw W ao n c b off l ∧ Vw W ao' n' c' b' off' l') := ⟨hv, hv'⟩
  obtain ⟨G, N, N', ho, hwd, hwd', hGT⟩ := hcf
  have HO : Hid (combL f G l l' (-9223372036854775808) 0 [] = some out) := ho
  have HE : Hid (∀ (args : Array Value) (w : World), (callFunc q args).run Tryd.prog w = .ok (.enter q args) w) := he
  have HQ : Hid (∀ x y w, Calls Tryd.prog q #[.bool x, .bool y] w fun e w' => e = .returned (.bool (f x y)) ∧ w' = w) := hq
  obtain ⟨T, hT⟩ : ∃ T, T = 2 * (N + N') := ⟨_, rfl⟩
  have HT : Hid (Wd N l ∧ Wd N' l' ∧ 2 * (N + N') ≤ T) := ⟨hwd, hwd', by omega⟩
  rw [← hT] at hGT
  have HGT : Hid (G * T ≤ 4000000000000 - 1) := hGT
  clear hv hv' ho he hq hT hwd hwd' hGT
  go_enter Tryd.func62, Tryd.ntmps62
  go_wp2
  go_loopg [0, 1, 7, 8, 9] G (fun g v0 v1 v7 v8 v9 wr => ∃ ao n c b off la ao' n' c' b' off' lb mo mn mc mb moff made last y, v0 = .slice ao n c ∧ v1 = .slice ao' n' c' ∧ v7 = .slice mo mn mc ∧ v8 = .int .i64 (last : Nat) ∧ v9 = .int .i64 y ∧ Vw W ao n c b off la ∧ Vw W ao' n' c' b' off' lb ∧ Ow W.heap.size wr mo mn mc mb moff made ∧ Below W.heap.size W wr ∧ last ≤ made.length ∧ (Wd N la ∧ Wd N' lb ∧ 2 * (N + N') ≤ T) ∧ made.length + g * T ≤ 4000000000000 - 1 ∧ g ≤ G ∧ combL f g la lb y last made = some out)
  case atStart =>
    refine ⟨_, _, _, _, _, l, _, _, _, _, _, l', _, _, _, 0, 0, [], 0, _, rfl, rfl, rfl, rfl, rfl, HV.out.1, HV.out.2, oz_nil _ _ _ _, Below.refl _ _, Nat.le_refl _, HT.out, ?_, Nat.le_refl _, HO.out⟩
    have h1 := HGT.out
    simp only [List.length_nil]
    omega
  case round =>
    obtain ⟨ao1, n1, c1, b1, off1, la, ao2, n2, c2, b2, off2, lb, mo, mn1, mc, mb, moff, made, last, y, rfl, rfl, rfl, rfl, rfl, hva, hvb, hO, hB, hlast, hab, hM, hg, hcomb⟩ := hrel
    cases gk with
    | zero => cases hcomb
    | succ g =>
    have hna := vw_len hva
    have hnb := vw_len hvb
    have hmn := vw_len hO.v
    have hn1 := vw_small hva
    have hn2 := vw_small hvb
    by_cases hd : la = [] ∧ lb = []
    · obtain ⟨rfl, rfl⟩ := hd
      simp at hna hnb
      subst hna
      subst hnb
      have e : made = out := by simpa [combL] using hcomb
      subst e
      have HO := hid hO
      have HB := hid hB
      clear hO hB hcomb hva hvb
      go_wp2
      go_ret
      exact ⟨⟨_, _, _, _, _, rfl, HO.out⟩, HB.out⟩
    · have hor : 0 < n1 ∨ (n1 = 0 ∧ 0 < n2) := by
        rw [← hna, ← hnb]
        rcases Nat.eq_zero_or_pos la.length with h0 | h0
        · refine .inr ⟨h0, ?_⟩
          rcases Nat.eq_zero_or_pos lb.length with h1 | h1
          · exact absurd ⟨List.length_eq_zero_iff.1 h0, List.length_eq_zero_iff.1 h1⟩ hd
          · exact h1
        · exact .inl h0
      have HC := hid hcomb
      have HVV : Hid (Vw W ao1 n1 c1 b1 off1 la ∧ Vw W ao2 n2 c2 b2 off2 lb) := ⟨hva, hvb⟩
      have HOB : Hid (Ow W.heap.size wr mo mn1 mc mb moff made ∧ Below W.heap.size W wr ∧ made.length = mn1 ∧ la.length = n1 ∧ lb.length = n2) := ⟨hO, hB, hmn, hna, hnb⟩
      have HD := hid hd
      have hmul : (g + 1) * T = g * T + T := by rw [Nat.add_mul, Nat.one_mul]
      have HM : Hid (made.length + (g * T + T) ≤ 4000000000000 - 1) := by rw [← hmul]; exact hM
      have HLa : Hid (last ≤ made.length ∧ (Wd N la ∧ Wd N' lb ∧ 2 * (N + N') ≤ T) ∧ g + 1 ≤ G) := ⟨hlast, hab, hg⟩
      have HS5 : Hid (SpE W.heap.size (wr.alloc (.cells #[.int .i64 y, .int .i64 (mn (nextE la y) (nextE lb y)), .slice mo mn1 mc, .bool false, .int .i64 0] 111)) wr.heap.size y (mn (nextE la y) (nextE lb y)) ⟨made, false, 0⟩ ∧ Below W.heap.size W (wr.alloc (.cells #[.int .i64 y, .int .i64 (mn (nextE la y) (nextE lb y)), .slice mo mn1 mc, .bool false, .int .i64 0] 111))) := by
        refine ⟨⟨mo, mn1, mc, mb, moff, ⟨by simp, by simp, by simp, by simp, by simp, fun j => by simp [go_sem]⟩, hO.below ((Below.refl _ _).alloc (Nat.le_refl _) _), hB.size, fun hc => Nat.ne_of_lt (hO.new hc).2⟩, hB.alloc hB.size _⟩
      clear hO hB hcomb hva hvb hmn hna hnb hd hM hmul hlast hab hg
      rcases hor with hp | ⟨hp, hp'⟩
      · have hp0 : (0 : Int) < (n1 : Int) := by omega
        go_wp2_with (first
          | (go_at_call 79; have C := nextEdge_any y ao1 n1 c1 b1 off1 la wr (HVV.out.1.below HOB.out.2.1); with_reducible refine Calls.mono C ?_; clear C; rintro e w1 ⟨rfl, hw1⟩; replace hw1 := hw1.symm; subst hw1)
          | (go_at_call 79; have C := nextEdge_any y ao2 n2 c2 b2 off2 lb wr (HVV.out.2.below HOB.out.2.1); with_reducible refine Calls.mono C ?_; clear C; rintro e w1 ⟨rfl, hw1⟩; replace hw1 := hw1.symm; subst hw1)
          | (go_at_call 81; have C := bandAt_any y ao1 n1 c1 b1 off1 la W (wr.alloc (.cells #[.int .i64 y, .int .i64 (mn (nextE la y) (nextE lb y)), .slice mo mn1 mc, .bool false, .int .i64 0] 111)) HVV.out.1 HS5.out.2; with_reducible refine Calls.mono C ?_; clear C; rintro e w6 ⟨hr6, hb6⟩; obtain ⟨ao3, n3, c3, b3, off3, rfl, hv3⟩ := retV hr6; have HS6 : Hid (SpE W.heap.size w6 wr.heap.size y (mn (nextE la y) (nextE lb y)) ⟨made, false, 0⟩ ∧ Below W.heap.size W w6 ∧ Vw W ao3 n3 c3 b3 off3 (bandL la y)) := hid ⟨HS5.out.1.below hb6, HS5.out.2.trans (hb6.mono HS5.out.2.size), hv3⟩; clear hr6 hb6 hv3)
          | (go_at_call 81; have C := bandAt_any y ao2 n2 c2 b2 off2 lb W w6 HVV.out.2 HS6.out.2.1; with_reducible refine Calls.mono C ?_; clear C; rintro e w7 ⟨hr7, hb7⟩; obtain ⟨ao4, n4, c4, b4, off4, rfl, hv4⟩ := retV hr7; have HS7 : Hid (SpE W.heap.size w7 wr.heap.size y (mn (nextE la y) (nextE lb y)) ⟨made, false, 0⟩ ∧ Below W.heap.size W w7 ∧ Vw W ao4 n4 c4 b4 off4 (bandL lb y)) := hid ⟨HS6.out.1.below hb7, HS6.out.2.1.trans (hb7.mono HS6.out.2.1.size), hv4⟩; clear hr7 hb7 hv4)
          | (go_at_call 80; have C := merge_any q f HE.out HQ.out W ao3 n3 c3 b3 off3 (bandL la y) ao4 n4 c4 b4 off4 (bandL lb y) HS6.out.2.2 HS7.out.2.2 w7 HS7.out.2.1 wr.heap.size y (mn (nextE la y) (nextE lb y)) ⟨made, false, 0⟩ HS7.out.1 (made.length + 2 * n3 + 2 * n4) (Nat.le_refl _) (comb_bd HM.out HLa.out.2.1 (vw_len HS6.out.2.2) (vw_len HS7.out.2.2)) _ rfl; with_reducible refine Calls.mono C ?_; clear C; rintro e w8 ⟨rfl, hs8, hb8⟩; obtain ⟨mo2, m2, mc2, mb2, moff2, hsp⟩ := spE hs8; have hc2 := hsp.five.c2; have HS8 := hid (And.intro hsp hb8); clear hs8 hb8 hsp)
          | (go_at_call 82; have C := settle_any W mo2 m2 mc2 mb2 moff2 _ last mn1 w8 HS8.out.2 HS8.out.1.own (le_of_eq' HLa.out.1 HOB.out.2.2.1) (settle_at HOB.out.2.2.1 HS8.out.1.own.v); with_reducible refine Calls.mono C ?_; clear C; rintro e w9 ⟨hr9, hb9⟩; obtain ⟨mo3, m3, mc3, mb3, moff3, rfl, hO9⟩ := retT hr9; have HS9 := hid (And.intro hO9 hb9); clear hr9 hb9 hO9)
          | (go_at_call 83; have C := below_any (mn (nextE la y) (nextE lb y)) ao1 n1 c1 b1 off1 la W w9 HVV.out.1 HS9.out.2; with_reducible refine Calls.mono C ?_; clear C; rintro e w10 ⟨hr10, hb10⟩; obtain ⟨ao5, n5, c5, b5, off5, rfl, hv5⟩ := retV hr10; have HS10 : Hid (Ow W.heap.size w10 mo3 m3 mc3 mb3 moff3 _ ∧ Below W.heap.size W w10 ∧ Vw W ao5 n5 c5 b5 off5 (belowL la (mn (nextE la y) (nextE lb y)))) := hid ⟨HS9.out.1.below hb10, HS9.out.2.trans (hb10.mono HS9.out.2.size), hv5⟩; clear hr10 hb10 hv5)
          | (go_at_call 83; have C := below_any (mn (nextE la y) (nextE lb y)) ao2 n2 c2 b2 off2 lb W w10 HVV.out.2 HS10.out.2.1; with_reducible refine Calls.mono C ?_; clear C; rintro e w11 ⟨hr11, hb11⟩; obtain ⟨ao6, n6, c6, b6, off6, rfl, hv6⟩ := retV hr11; have HS11 : Hid (Ow W.heap.size w11 mo3 m3 mc3 mb3 moff3 _ ∧ Below W.heap.size W w11 ∧ Vw W ao6 n6 c6 b6 off6 (belowL lb (mn (nextE la y) (nextE lb y)))) := hid ⟨HS10.out.1.below hb11, HS10.out.2.1.trans (hb11.mono HS10.out.2.1.size), hv6⟩; clear hr11 hb11 hv6))
        go_roundg g
        case measure => omega
        case rel =>
          refine ⟨_, _, _, _, _, _, _, _, _, _, _, _, _, _, _, _, _, _, _, _, rfl, rfl, rfl, rfl, rfl, HS10.out.2.2, HS11.out.2.2, HS11.out.1, HS11.out.2.1, ?_, ?_, ?_, by have := HLa.out.2.2; omega, ?_⟩
          · exact (comb_made (vw_len HS6.out.2.2) (vw_len HS7.out.2.2) HOB.out.2.2.1 HLa.out.1 HLa.out.2.1 HM.out).1
          · exact ⟨wd_below HLa.out.2.1.1 _, wd_below HLa.out.2.1.2.1 _, HLa.out.2.1.2.2⟩
          · exact (comb_made (vw_len HS6.out.2.2) (vw_len HS7.out.2.2) HOB.out.2.2.1 HLa.out.1 HLa.out.2.1 HM.out).2
          · exact comb_step HC.out HD.out (vw_len HS6.out.2.2) (vw_len HS7.out.2.2) HOB.out.2.2.1
      · subst hp
        have hp0 : (0 : Int) < (n2 : Int) := by omega
        go_wp2_with (first
          | (go_at_call 79; have C := nextEdge_any y ao1 0 c1 b1 off1 la wr (HVV.out.1.below HOB.out.2.1); with_reducible refine Calls.mono C ?_; clear C; rintro e w1 ⟨rfl, hw1⟩; replace hw1 := hw1.symm; subst hw1)
          | (go_at_call 79; have C := nextEdge_any y ao2 n2 c2 b2 off2 lb wr (HVV.out.2.below HOB.out.2.1); with_reducible refine Calls.mono C ?_; clear C; rintro e w1 ⟨rfl, hw1⟩; replace hw1 := hw1.symm; subst hw1)
          | (go_at_call 81; have C := bandAt_any y ao1 0 c1 b1 off1 la W (wr.alloc (.cells #[.int .i64 y, .int .i64 (mn (nextE la y) (nextE lb y)), .slice mo mn1 mc, .bool false, .int .i64 0] 111)) HVV.out.1 HS5.out.2; with_reducible refine Calls.mono C ?_; clear C; rintro e w6 ⟨hr6, hb6⟩; obtain ⟨ao3, n3, c3, b3, off3, rfl, hv3⟩ := retV hr6; have HS6 : Hid (SpE W.heap.size w6 wr.heap.size y (mn (nextE la y) (nextE lb y)) ⟨made, false, 0⟩ ∧ Below W.heap.size W w6 ∧ Vw W ao3 n3 c3 b3 off3 (bandL la y)) := hid ⟨HS5.out.1.below hb6, HS5.out.2.trans (hb6.mono HS5.out.2.size), hv3⟩; clear hr6 hb6 hv3)
          | (go_at_call 81; have C := bandAt_any y ao2 n2 c2 b2 off2 lb W w6 HVV.out.2 HS6.out.2.1; with_reducible refine Calls.mono C ?_; clear C; rintro e w7 ⟨hr7, hb7⟩; obtain ⟨ao4, n4, c4, b4, off4, rfl, hv4⟩ := retV hr7; have HS7 : Hid (SpE W.heap.size w7 wr.heap.size y (mn (nextE la y) (nextE lb y)) ⟨made, false, 0⟩ ∧ Below W.heap.size W w7 ∧ Vw W ao4 n4 c4 b4 off4 (bandL lb y)) := hid ⟨HS6.out.1.below hb7, HS6.out.2.1.trans (hb7.mono HS6.out.2.1.size), hv4⟩; clear hr7 hb7 hv4)
          | (go_at_call 80; have C := merge_any q f HE.out HQ.out W ao3 n3 c3 b3 off3 (bandL la y) ao4 n4 c4 b4 off4 (bandL lb y) HS6.out.2.2 HS7.out.2.2 w7 HS7.out.2.1 wr.heap.size y (mn (nextE la y) (nextE lb y)) ⟨made, false, 0⟩ HS7.out.1 (made.length + 2 * n3 + 2 * n4) (Nat.le_refl _) (comb_bd HM.out HLa.out.2.1 (vw_len HS6.out.2.2) (vw_len HS7.out.2.2)) _ rfl; with_reducible refine Calls.mono C ?_; clear C; rintro e w8 ⟨rfl, hs8, hb8⟩; obtain ⟨mo2, m2, mc2, mb2, moff2, hsp⟩ := spE hs8; have hc2 := hsp.five.c2; have HS8 := hid (And.intro hsp hb8); clear hs8 hb8 hsp)
          | (go_at_call 82; have C := settle_any W mo2 m2 mc2 mb2 moff2 _ last mn1 w8 HS8.out.2 HS8.out.1.own (le_of_eq' HLa.out.1 HOB.out.2.2.1) (settle_at HOB.out.2.2.1 HS8.out.1.own.v); with_reducible refine Calls.mono C ?_; clear C; rintro e w9 ⟨hr9, hb9⟩; obtain ⟨mo3, m3, mc3, mb3, moff3, rfl, hO9⟩ := retT hr9; have HS9 := hid (And.intro hO9 hb9); clear hr9 hb9 hO9)
          | (go_at_call 83; have C := below_any (mn (nextE la y) (nextE lb y)) ao1 0 c1 b1 off1 la W w9 HVV.out.1 HS9.out.2; with_reducible refine Calls.mono C ?_; clear C; rintro e w10 ⟨hr10, hb10⟩; obtain ⟨ao5, n5, c5, b5, off5, rfl, hv5⟩ := retV hr10; have HS10 : Hid (Ow W.heap.size w10 mo3 m3 mc3 mb3 moff3 _ ∧ Below W.heap.size W w10 ∧ Vw W ao5 n5 c5 b5 off5 (belowL la (mn (nextE la y) (nextE lb y)))) := hid ⟨HS9.out.1.below hb10, HS9.out.2.trans (hb10.mono HS9.out.2.size), hv5⟩; clear hr10 hb10 hv5)
          | (go_at_call 83; have C := below_any (mn (nextE la y) (nextE lb y)) ao2 n2 c2 b2 off2 lb W w10 HVV.out.2 HS10.out.2.1; with_reducible refine Calls.mono C ?_; clear C; rintro e w11 ⟨hr11, hb11⟩; obtain ⟨ao6, n6, c6, b6, off6, rfl, hv6⟩ := retV hr11; have HS11 : Hid (Ow W.heap.size w11 mo3 m3 mc3 mb3 moff3 _ ∧ Below W.heap.size W w11 ∧ Vw W ao6 n6 c6 b6 off6 (belowL lb (mn (nextE la y) (nextE lb y)))) := hid ⟨HS10.out.1.below hb11, HS10.out.2.1.trans (hb11.mono HS10.out.2.1.size), hv6⟩; clear hr11 hb11 hv6))
        go_roundg g
        case measure => omega
        case rel =>
          refine ⟨_, _, _, _, _, _, _, _, _, _, _, _, _, _, _, _, _, _, _, _, rfl, rfl, rfl, rfl, rfl, HS10.out.2.2, HS11.out.2.2, HS11.out.1, HS11.out.2.1, ?_, ?_, ?_, by have := HLa.out.2.2; omega, ?_⟩
          · exact (comb_made (vw_len HS6.out.2.2) (vw_len HS7.out.2.2) HOB.out.2.2.1 HLa.out.1 HLa.out.2.1 HM.out).1
          · exact ⟨wd_below HLa.out.2.1.1 _, wd_below HLa.out.2.1.2.1 _, HLa.out.2.1.2.2⟩
          · exact (comb_made (vw_len HS6.out.2.2) (vw_len HS7.out.2.2) HOB.out.2.2.1 HLa.out.1 HLa.out.2.1 HM.out).2
          · exact comb_step HC.out HD.out (vw_len HS6.out.2.2) (vw_len HS7.out.2.2) HOB.out.2.2.1
end Go.Proofs.YteiihgoobhlkbaaDoor.Rg
/- Join, Meet and Cut of regions: contracts. -/
namespace Go.Proofs.YteiihgoobhlkbaaDoor.Rg
open Num Go.RowKit
set_option linter.unusedVariables false

theorem orFn (x y : Bool) (w : World) : Calls Tryd.prog 63 #[.bool x, .bool y] w fun e w' => e = .returned (.bool (orF x y)) ∧ w' = w := by
  cases x <;> cases y
  all_goals
    go_enter Tryd.func63, Tryd.ntmps63
    go_wp2
    go_ret
    exact ⟨rfl, rfl⟩
theorem andFn (x y : Bool) (w : World) : Calls Tryd.prog 67 #[.bool x, .bool y] w fun e w' => e = .returned (.bool (andF x y)) ∧ w' = w := by
  cases x <;> cases y
  all_goals
    go_enter Tryd.func67, Tryd.ntmps67
    go_wp2
    go_ret
    exact ⟨rfl, rfl⟩
theorem enter40 (args : Array Value) (w : World) : (callFunc 63 args).run Tryd.prog w = .ok (.enter 63 args) w := by
  simp [callFunc, go_sem]
  rw [if_neg (by simp [Tryd.f63]), if_neg (by simp [Tryd.f63])]
theorem enter43 (args : Array Value) (w : World) : (callFunc 67 args).run Tryd.prog w = .ok (.enter 67 args) w := by
  simp [callFunc, go_sem]
  rw [if_neg (by simp [Tryd.f67]), if_neg (by simp [Tryd.f67])]
theorem join_any (W : World) (ao : Option Addr) (n c b off : Nat) (l : List R) (ao' : Option Addr) (n' c' b' off' : Nat) (l' : List R) (hv : Vw W ao n c b off l) (hv' : Vw W ao' n' c' b' off' l')
    (out : List R) (ho : Cf orF l l' out) :
    Calls Tryd.prog 33 #[.slice ao n c, .slice ao' n' c'] W fun e w' => RetO W.heap.size w' e out ∧ Below W.heap.size W w' := by
  have C := combine_any 63 orF enter40 orFn W ao n c b off l ao' n' c' b' off' l' hv hv' out ho
  have HC := hid C
  clear C hv hv' ho
  go_enter Tryd.func33, Tryd.ntmps33
  go_wp2_with (go_at_call 62; with_reducible refine Calls.mono HC.out ?_; rintro e w1 ⟨hr, hb⟩; have HB := hid hb; obtain ⟨ao3, n3, c3, b3, off3, rfl, hv3⟩ := retO hr; have HV := hid hv3; clear hr hb hv3)
  go_ret
  exact ⟨⟨_, _, _, _, _, rfl, HV.out⟩, HB.out⟩
theorem meet_any (W : World) (ao : Option Addr) (n c b off : Nat) (l : List R) (ao' : Option Addr) (n' c' b' off' : Nat) (l' : List R) (hv : Vw W ao n c b off l) (hv' : Vw W ao' n' c' b' off' l')
    (out : List R) (ho : Cf andF l l' out) :
    Calls Tryd.prog 37 #[.slice ao n c, .slice ao' n' c'] W fun e w' => RetO W.heap.size w' e out ∧ Below W.heap.size W w' := by
  have C := combine_any 67 andF enter43 andFn W ao n c b off l ao' n' c' b' off' l' hv hv' out ho
  have HC := hid C
  clear C hv hv' ho
  go_enter Tryd.func37, Tryd.ntmps37
  go_wp2_with (go_at_call 62; with_reducible refine Calls.mono HC.out ?_; rintro e w1 ⟨hr, hb⟩; have HB := hid hb; obtain ⟨ao3, n3, c3, b3, off3, rfl, hv3⟩ := retO hr; have HV := hid hv3; clear hr hb hv3)
  go_ret
  exact ⟨⟨_, _, _, _, _, rfl, HV.out⟩, HB.out⟩
end Go.Proofs.YteiihgoobhlkbaaDoor.Rg
