/- A strip's edges, merged: the contract. -/
import Derived.Test.YtlakklpnajgjiaaStrip
import Derived.WalkMore
import Derived.ScopeJumps
namespace Go.Proofs.Ytlakklpnajgjiaa
open Num Go.RowKit
set_option linter.unusedVariables false

theorem jump_normal {l : Nat} {J : Act → World → Prop} {Q : Exit → Act → World → Prop} {a : Act} {w : World} (h : Q .normal a w) : Exit.jump l J Q .normal a w := h
def odd (i : Nat) : Bool := i % 2 == 1
theorem odd_succ (i : Nat) : odd (i + 1) = !odd i := by
  unfold odd
  rcases Nat.mod_two_eq_zero_or_one i with h | h
  · rw [show (i + 1) % 2 = 1 by omega, h]; rfl
  · rw [show (i + 1) % 2 = 0 by omega, h]; rfl
theorem odd_int (i : Nat) : (((i : Int) % 2) == 1) = odd i := by
  unfold odd
  rw [Bool.eq_iff_iff]
  simp
  omega
theorem odd_int' (i : Nat) : ((((i : Int) + 1) % 2) == 1) = odd (i + 1) := by
  unfold odd
  rw [Bool.eq_iff_iff]
  simp
  omega
theorem even_int (i : Nat) : (((i : Int) % 2) == 0) = odd (i + 1) := by
  unfold odd
  rw [Bool.eq_iff_iff]
  simp
  omega

theorem SpE.below {B : Nat} {w w' : World} {k : Nat} {y0 y1 : Int} {s : St} (h : SpE B w k y0 y1 s) (hb : Below w.heap.size w w') : SpE B w' k y0 y1 s := by
  obtain ⟨ao, n, c, b, off, h⟩ := h
  exact ⟨ao, n, c, b, off, h.five.block (hb.block _ h.five.lt), h.own.below hb, h.low, h.ne⟩

theorem pass_len (y0 y1 x : Int) (t : Bool) (s : St) : (passS y0 y1 x t s).made.length ≤ s.made.length + 1 := by
  unfold passS
  split
  · omega
  · dsimp only
    split
    · simp
    · omega

theorem merge_over (f : Bool → Bool → Bool) (y0 y1 : Int) (k : Nat) {l m : List Int} (p q : Bool) (s : St) (h : l = [] ∨ m = []) : mergeS f y0 y1 (k + 1) l p m q s = tailB f y0 y1 m q (tailA f y0 y1 l p s) := by
  rcases h with rfl | rfl
  · cases m <;> rfl
  · cases l <;> rfl

/-- what stands when a list is over -/
def Over (W : World) (q : Nat) (f : Bool → Bool → Bool) (y0 y1 : Int) (k : Nat) (ao : Option Addr) (n c : Nat) (l : List R) (ao' : Option Addr) (n' c' : Nat) (l' : List R) (M : Nat) (out : St) (a : Act) (w : World) : Prop :=
  ∃ (i j : Nat) (s : St) (u10 u11 u12 u13 u14 u15 u16 u17 u18 u19 u20 u21 u22 u23 u24 u25 u26 u27 u28 u29 u30 u31 u32 u33 u34 u35 u36 u37 u38 u39 u40 u41 u42 u43 u44 u45 u46 u47 u48 u49 u50 u51 u52 : Value), a = ⟨#[.pointer (some ⟨k, 0, none⟩), .slice ao n c, .slice ao' n' c', .func (.func q) #[] #[], undef, undef, undef, undef, .int .i64 (i : Nat), .int .i64 (j : Nat), u10, u11, u12, u13, u14, u15, u16, u17, u18, u19, u20, u21, u22, u23, u24, u25, u26, u27, u28, u29, u30, u31, u32, u33, u34, u35, u36, u37, u38, u39, u40, u41, u42, u43, u44, u45, u46, u47, u48, u49, u50, u51, u52, undef, undef, undef, undef, undef, undef, undef, undef, undef, undef, undef, undef, undef, undef, undef, undef, undef, undef, undef, undef, undef, undef, undef, undef, undef, undef, undef, undef, undef, undef, undef, undef, undef, undef], []⟩ ∧ Below W.heap.size W w ∧ SpE W.heap.size w k y0 y1 s ∧ i ≤ 2 * n ∧ j ≤ 2 * n' ∧ s.made.length + (2 * n - i) + (2 * n' - j) ≤ M ∧
    tailB f y0 y1 ((edges l').drop j) (odd j) (tailA f y0 y1 ((edges l).drop i) (odd i) s) = out

set_option maxRecDepth 100000 in
set_option maxHeartbeats 4000000 in
theorem merge_any (q : Nat) (f : Bool → Bool → Bool) (he : ∀ (args : Array Value) (w : World), (callFunc q args).run Try.prog w = .ok (.enter q args) w) (hq : ∀ x y w, Calls Try.prog q #[.bool x, .bool y] w fun e w' => e = .returned (.bool (f x y)) ∧ w' = w)
    (W : World) (ao : Option Addr) (n c b off : Nat) (l : List R) (ao' : Option Addr) (n' c' b' off' : Nat) (l' : List R) (hv : Vw W ao n c b off l) (hv' : Vw W ao' n' c' b' off' l')
    (w : World) (hW : Below W.heap.size W w) (k : Nat) (y0 y1 : Int) (s : St) (hs : SpE W.heap.size w k y0 y1 s) (M : Nat) (hM : s.made.length + 2 * n + 2 * n' ≤ M) (hM' : M < 4000000000000) (out : St)
    (ho : mergeS f y0 y1 (2 * n + 2 * n' + 1) (edges l) false (edges l') false s = out) :
    Calls Try.prog 59 #[.pointer (some ⟨k, 0, none⟩), .slice ao n c, .slice ao' n' c', .func (.func q) #[] #[]] w fun e w' => e = .returned (.tuple #[]) ∧ SpE W.heap.size w' k y0 y1 out ∧ Below W.heap.size W w' := by
  have hl := vw_len hv
  have hl' := vw_len hv'
  have H : Hid (Vw W ao n c b off l ∧ Vw W ao' n' c' b' off' l' ∧ (edges l).length = 2 * n ∧ (edges l').length = 2 * n') := ⟨hv, hv', by rw [edges_len, hl], by rw [edges_len, hl']⟩
  have HQ : Hid (∀ x y w, Calls Try.prog q #[.bool x, .bool y] w fun e w' => e = .returned (.bool (f x y)) ∧ w' = w) := hq
  have S0 : Hid (Below W.heap.size W w ∧ SpE W.heap.size w k y0 y1 s ∧ s.made.length + 2 * n + 2 * n' ≤ M ∧ mergeS f y0 y1 (2 * n + 2 * n' + 1) (edges l) false (edges l') false s = out) := ⟨hW, hs, hM, ho⟩
  have hn : n < 4000000000000 := by omega
  have hn' : n' < 4000000000000 := by omega
  clear hv hv' hl hl' hq hW hs hM ho
  go_enter Try.func59, Try.ntmps59
  refine wp_scope_jumps 0 (Over W q f y0 y1 k ao n c l ao' n' c' l' M out) (fun _ _ => 0) rfl ?first ?pass
  case first =>
    go_wp2
    go_loopg [8, 9] (2 * n + 2 * n') (fun g vi vj wr => ∃ (i j fu : Nat) (s : St), vi = .int .i64 i ∧ vj = .int .i64 j ∧ i ≤ 2 * n ∧ j ≤ 2 * n' ∧ g = (2 * n - i) + (2 * n' - j) ∧ Below W.heap.size W wr ∧ SpE W.heap.size wr k y0 y1 s ∧ s.made.length + (2 * n - i) + (2 * n' - j) ≤ M ∧ (2 * n - i) + (2 * n' - j) < fu ∧ mergeS f y0 y1 fu ((edges l).drop i) (odd i) ((edges l').drop j) (odd j) s = out)
    case atStart =>
      obtain ⟨h1, h2, h3, h4⟩ := S0.out
      exact ⟨0, 0, 2 * n + 2 * n' + 1, s, rfl, rfl, Nat.zero_le _, Nat.zero_le _, by simp, h1, h2, by omega, by omega, by simpa [odd] using h4⟩
    case round =>
      obtain ⟨i, j, fu, s1, rfl, rfl, hi, hj, rfl, hB, hs, hM, hfu, hm⟩ := hrel
      obtain ⟨g, rfl⟩ : ∃ g, fu = g + 1 := ⟨fu - 1, by omega⟩
      clear S0
      have HM : Hid (mergeS f y0 y1 (g + 1) ((edges l).drop i) (odd i) ((edges l').drop j) (odd j) s1 = out) := hm
      have HS : Hid (Below W.heap.size W wr ∧ SpE W.heap.size wr k y0 y1 s1) := ⟨hB, hs⟩
      clear hm hB hs
      by_cases hover : i = 2 * n ∨ j = 2 * n'
      · have hgo : ∀ (a : Act), a.tmps = a.tmps → True := fun _ _ => trivial
        by_cases hi2 : i = 2 * n
        · have d1 : ((i : Int) == 2 * (n : Int)) = true := by simp; omega
          clear hover hgo
          go_wp2
          go_step3
          refine ⟨rfl, i, j, s1, _, _, _, _, _, _, _, _, _, _, _, _, _, _, _, _, _, _, _, _, _, _, _, _, _, _, _, _, _, _, _, _, _, _, _, _, _, _, _, _, _, _, _, rfl, HS.out.1, HS.out.2, hi, hj, hM, ?_⟩
          rw [← HM.out]
          exact (merge_over f y0 y1 _ _ _ _ (.inl (List.drop_eq_nil_of_le (by rw [H.out.2.2.1]; omega)))).symm
        · have hj2 : j = 2 * n' := by omega
          have d1 : ((i : Int) == 2 * (n : Int)) = false := by simp; omega
          have d2 : ((j : Int) == 2 * (n' : Int)) = true := by simp; omega
          clear hover hgo
          go_wp2
          go_step3
          refine ⟨rfl, i, j, s1, _, _, _, _, _, _, _, _, _, _, _, _, _, _, _, _, _, _, _, _, _, _, _, _, _, _, _, _, _, _, _, _, _, _, _, _, _, _, _, _, _, _, _, rfl, HS.out.1, HS.out.2, hi, hj, hM, ?_⟩
          rw [← HM.out]
          exact (merge_over f y0 y1 _ _ _ _ (.inr (List.drop_eq_nil_of_le (by rw [H.out.2.2.2]; omega)))).symm
      · have hi3 : i < 2 * n := by omega
        have hj3 : j < 2 * n' := by omega
        clear hover
        have d1 : ((i : Int) == 2 * (n : Int)) = false := by simp; omega
        have d2 : ((j : Int) == 2 * (n' : Int)) = false := by simp; omega
        have hi9 : i ≤ 9223372036854775807 := by omega
        have hj9 : j ≤ 9223372036854775807 := by omega
        have hlen : s1.made.length < 4000000000000 := by omega
        obtain ⟨x, hx0⟩ : ∃ x, (edges l)[i]? = some x := ⟨_, List.getElem?_eq_getElem (by rw [H.out.2.2.1]; exact hi3)⟩
        obtain ⟨z, hz0⟩ : ∃ x, (edges l')[j]? = some x := ⟨_, List.getElem?_eq_getElem (by rw [H.out.2.2.2]; exact hj3)⟩
        have hx : Hid ((edges l)[i]? = some x) := hx0
        have hz : Hid ((edges l')[j]? = some z) := hz0
        have dx : (edges l).drop i = x :: (edges l).drop (i + 1) := by
          obtain ⟨h1, h2⟩ := List.getElem?_eq_some_iff.1 hx0
          rw [List.drop_eq_getElem_cons h1, h2]
        have dz : (edges l').drop j = z :: (edges l').drop (j + 1) := by
          obtain ⟨h1, h2⟩ := List.getElem?_eq_some_iff.1 hz0
          rw [List.drop_eq_getElem_cons h1, h2]
        have hm := HM.out
        rw [dx, dz] at hm
        clear HM hx0 hz0
        have o1 := odd_int i
        have o2 := odd_int j
        have o3 := odd_int' i
        have o4 := odd_int' j
        have HZ : Hid ((edges l').drop j = z :: (edges l').drop (j + 1)) := dz
        have HX : Hid ((edges l).drop i = x :: (edges l).drop (i + 1)) := dx
        rcases Int.lt_trichotomy x z with hxz | hxz | hxz
        · have hle : x ≤ z := by omega
          have hnle : ¬ z ≤ x := by omega
          have hmin : mn x z = x := by unfold mn; omega
          have HM : Hid _ := hm
          clear hm dx dz
          go_wp2_with (first
            | (go_at_call 73; have C := edge_any i ao n c b off l wr (H.out.1.below HS.out.1) x hx.out hi9; with_reducible refine Calls.mono C ?_; clear C; rintro e w1 ⟨rfl, hb1⟩; have HS1 : Hid (Below W.heap.size W w1 ∧ SpE W.heap.size w1 k y0 y1 s1) := hid ⟨HS.out.1.trans (hb1.mono HS.out.1.size), HS.out.2.below hb1⟩; clear hb1)
            | (go_at_call 73; have C := edge_any j ao' n' c' b' off' l' w1 (H.out.2.1.below HS1.out.1) z hz.out hj9; with_reducible refine Calls.mono C ?_; clear C; rintro e w2 ⟨rfl, hb2⟩; have HS2 : Hid (Below W.heap.size W w2 ∧ SpE W.heap.size w2 k y0 y1 s1) := hid ⟨HS1.out.1.trans (hb2.mono HS1.out.1.size), HS1.out.2.below hb2⟩; clear hb2)
            | (with_reducible refine Calls.mono (HQ.out _ _ _) ?_; rintro e w3 ⟨rfl, hw3⟩; replace hw3 := hw3.symm; subst hw3)
            | (go_at_call 74; with_reducible refine Calls.mono (pass_any W.heap.size w2 k y0 y1 _ _ s1 HS2.out.2 hlen) ?_; rintro e w4 ⟨rfl, hs4, hb4⟩; have HS4 := hid hs4; have HB4 := hid (HS2.out.1.trans hb4); clear hs4 hb4))
          go_roundg ((2 * n - (i + 1)) + (2 * n' - j))
          case measure => omega
          case rel =>
            refine ⟨(i + 1), j, g, _, by simp, by simp, by omega, by omega, rfl, HB4.out, HS4.out, ?_, by omega, ?_⟩
            · have := pass_len y0 y1 x (f (odd (i + 1)) (odd j)) s1
              omega
            · rw [← HM.out]
              show _ = (if x < z then _ else _)
              rw [if_pos hxz, odd_succ, HZ.out]
        · subst hxz
          have hle : x ≤ x := Int.le_refl x
          have HM : Hid _ := hm
          clear hm dx dz
          go_wp2_with (first
            | (go_at_call 73; have C := edge_any i ao n c b off l wr (H.out.1.below HS.out.1) x hx.out hi9; with_reducible refine Calls.mono C ?_; clear C; rintro e w1 ⟨rfl, hb1⟩; have HS1 : Hid (Below W.heap.size W w1 ∧ SpE W.heap.size w1 k y0 y1 s1) := hid ⟨HS.out.1.trans (hb1.mono HS.out.1.size), HS.out.2.below hb1⟩; clear hb1)
            | (go_at_call 73; have C := edge_any j ao' n' c' b' off' l' w1 (H.out.2.1.below HS1.out.1) x hz.out hj9; with_reducible refine Calls.mono C ?_; clear C; rintro e w2 ⟨rfl, hb2⟩; have HS2 : Hid (Below W.heap.size W w2 ∧ SpE W.heap.size w2 k y0 y1 s1) := hid ⟨HS1.out.1.trans (hb2.mono HS1.out.1.size), HS1.out.2.below hb2⟩; clear hb2)
            | (with_reducible refine Calls.mono (HQ.out _ _ _) ?_; rintro e w3 ⟨rfl, hw3⟩; replace hw3 := hw3.symm; subst hw3)
            | (go_at_call 74; with_reducible refine Calls.mono (pass_any W.heap.size w2 k y0 y1 _ _ s1 HS2.out.2 hlen) ?_; rintro e w4 ⟨rfl, hs4, hb4⟩; have HS4 := hid hs4; have HB4 := hid (HS2.out.1.trans hb4); clear hs4 hb4))
          go_roundg ((2 * n - (i + 1)) + (2 * n' - (j + 1)))
          case measure => omega
          case rel =>
            refine ⟨(i + 1), (j + 1), g, _, by simp, by simp, by omega, by omega, rfl, HB4.out, HS4.out, ?_, by omega, ?_⟩
            · have := pass_len y0 y1 x (f (odd (i + 1)) (odd (j + 1))) s1
              omega
            · rw [← HM.out]
              show _ = (if x < x then _ else if x < x then _ else _)
              rw [if_neg (by omega), if_neg (by omega), odd_succ, odd_succ]
        · have hle : z ≤ x := by omega
          have hnle : ¬ x ≤ z := by omega
          have HM : Hid _ := hm
          clear hm dx dz
          go_wp2_with (first
            | (go_at_call 73; have C := edge_any i ao n c b off l wr (H.out.1.below HS.out.1) x hx.out hi9; with_reducible refine Calls.mono C ?_; clear C; rintro e w1 ⟨rfl, hb1⟩; have HS1 : Hid (Below W.heap.size W w1 ∧ SpE W.heap.size w1 k y0 y1 s1) := hid ⟨HS.out.1.trans (hb1.mono HS.out.1.size), HS.out.2.below hb1⟩; clear hb1)
            | (go_at_call 73; have C := edge_any j ao' n' c' b' off' l' w1 (H.out.2.1.below HS1.out.1) z hz.out hj9; with_reducible refine Calls.mono C ?_; clear C; rintro e w2 ⟨rfl, hb2⟩; have HS2 : Hid (Below W.heap.size W w2 ∧ SpE W.heap.size w2 k y0 y1 s1) := hid ⟨HS1.out.1.trans (hb2.mono HS1.out.1.size), HS1.out.2.below hb2⟩; clear hb2)
            | (with_reducible refine Calls.mono (HQ.out _ _ _) ?_; rintro e w3 ⟨rfl, hw3⟩; replace hw3 := hw3.symm; subst hw3)
            | (go_at_call 74; with_reducible refine Calls.mono (pass_any W.heap.size w2 k y0 y1 _ _ s1 HS2.out.2 hlen) ?_; rintro e w4 ⟨rfl, hs4, hb4⟩; have HS4 := hid hs4; have HB4 := hid (HS2.out.1.trans hb4); clear hs4 hb4))
          go_roundg ((2 * n - i) + (2 * n' - (j + 1)))
          case measure => omega
          case rel =>
            refine ⟨i, (j + 1), g, _, by simp, by simp, by omega, by omega, rfl, HB4.out, HS4.out, ?_, by omega, ?_⟩
            · have := pass_len y0 y1 z (f (odd i) (odd (j + 1))) s1
              omega
            · rw [← HM.out]
              show _ = (if x < z then _ else if z < x then _ else _)
              rw [if_neg (by omega), if_pos hxz, odd_succ, HX.out]
  case pass =>
    intro a w ⟨i, j, s1, u10, u11, u12, u13, u14, u15, u16, u17, u18, u19, u20, u21, u22, u23, u24, u25, u26, u27, u28, u29, u30, u31, u32, u33, u34, u35, u36, u37, u38, u39, u40, u41, u42, u43, u44, u45, u46, u47, u48, u49, u50, u51, u52, ea, hB, hs, hi, hj, hM, ho⟩
    subst ea
    clear S0
    have HS : Hid (Below W.heap.size W w ∧ SpE W.heap.size w k y0 y1 s1 ∧ tailB f y0 y1 ((edges l').drop j) (odd j) (tailA f y0 y1 ((edges l).drop i) (odd i) s1) = out) := ⟨hB, hs, ho⟩
    clear hB hs ho
    go_wp2
    go_loopg [8] (2 * n - i) (fun g vi wr => ∃ (i : Nat) (s : St), vi = .int .i64 i ∧ i ≤ 2 * n ∧ g = 2 * n - i ∧ Below W.heap.size W wr ∧ SpE W.heap.size wr k y0 y1 s ∧ s.made.length + (2 * n - i) + (2 * n' - j) ≤ M ∧ tailB f y0 y1 ((edges l').drop j) (odd j) (tailA f y0 y1 ((edges l).drop i) (odd i) s) = out)
    case atStart => exact ⟨i, s1, rfl, hi, rfl, HS.out.1, HS.out.2.1, hM, HS.out.2.2⟩
    case round =>
      clear HS hM hi
      clear s1 i
      obtain ⟨i, s1, rfl, hi, rfl, hB, hs, hM, ho⟩ := hrel
      have HS : Hid (Below W.heap.size W wr ∧ SpE W.heap.size wr k y0 y1 s1) := ⟨hB, hs⟩
      have HO : Hid (tailB f y0 y1 ((edges l').drop j) (odd j) (tailA f y0 y1 ((edges l).drop i) (odd i) s1) = out) := ho
      clear hB hs ho
      by_cases hi2 : i < 2 * n
      · have hi9 : i ≤ 9223372036854775807 := by omega
        have hlen : s1.made.length < 4000000000000 := by omega
        obtain ⟨x, hx0⟩ : ∃ x, (edges l)[i]? = some x := ⟨_, List.getElem?_eq_getElem (by rw [H.out.2.2.1]; exact hi2)⟩
        have hx : Hid ((edges l)[i]? = some x) := hx0
        have HX : Hid ((edges l).drop i = x :: (edges l).drop (i + 1)) := by
          obtain ⟨h1, h2⟩ := List.getElem?_eq_some_iff.1 hx0
          show _ = _
          rw [List.drop_eq_getElem_cons h1, h2]
        have d1 : (i : Int) < 2 * (n : Int) := by omega
        have o1 := even_int i
        clear hx0
        go_wp2_with (first
            | (go_at_call 73; have C := edge_any i ao n c b off l wr (H.out.1.below HS.out.1) x hx.out hi9; with_reducible refine Calls.mono C ?_; clear C; rintro e w1 ⟨rfl, hb1⟩; have HS1 : Hid (Below W.heap.size W w1 ∧ SpE W.heap.size w1 k y0 y1 s1) := hid ⟨HS.out.1.trans (hb1.mono HS.out.1.size), HS.out.2.below hb1⟩; clear hb1)
            | (with_reducible refine Calls.mono (HQ.out _ _ _) ?_; rintro e w3 ⟨rfl, hw3⟩; replace hw3 := hw3.symm; subst hw3)
            | (go_at_call 74; with_reducible refine Calls.mono (pass_any W.heap.size w1 k y0 y1 _ _ s1 HS1.out.2 hlen) ?_; rintro e w4 ⟨rfl, hs4, hb4⟩; have HS4 := hid hs4; have HB4 := hid (HS1.out.1.trans hb4); clear hs4 hb4))
        go_roundg (2 * n - (i + 1))
        case measure => omega
        case rel =>
          refine ⟨i + 1, _, by simp, by omega, rfl, HB4.out, HS4.out, ?_, ?_⟩
          · have := pass_len y0 y1 x (f (odd (i + 1)) false) s1
            omega
          · rw [← HO.out, HX.out, odd_succ]
            rfl
      · obtain rfl : i = 2 * n := by omega
        have d1 : ¬ (((2 * n : Nat) : Int) < 2 * (n : Int)) := by omega
        have HT : Hid (tailB f y0 y1 ((edges l').drop j) (odd j) s1 = out) := by
          have := HO.out
          have e0 : (edges l).drop (2 * n) = [] := List.drop_eq_nil_of_le (by rw [H.out.2.2.1]; omega)
          rw [e0] at this
          exact this
        clear HO
        go_wp2
        go_loopg [9] (2 * n' - j) (fun g vj wr => ∃ (j : Nat) (s : St), vj = .int .i64 j ∧ j ≤ 2 * n' ∧ g = 2 * n' - j ∧ Below W.heap.size W wr ∧ SpE W.heap.size wr k y0 y1 s ∧ s.made.length + (2 * n' - j) ≤ M ∧ tailB f y0 y1 ((edges l').drop j) (odd j) s = out)
        case atStart => exact ⟨j, s1, rfl, hj, rfl, HS.out.1, HS.out.2, by omega, HT.out⟩
        case round =>
          clear HS HT hM
          obtain ⟨j2, s2, rfl, hj2', rfl, hB, hs, hM, ho⟩ := hrel
          have HS : Hid (Below W.heap.size W wr ∧ SpE W.heap.size wr k y0 y1 s2) := ⟨hB, hs⟩
          have HO : Hid (tailB f y0 y1 ((edges l').drop j2) (odd j2) s2 = out) := ho
          clear hB hs ho
          by_cases hjj : j2 < 2 * n'
          · have hj9 : j2 ≤ 9223372036854775807 := by omega
            have hlen : s2.made.length < 4000000000000 := by omega
            obtain ⟨x, hx0⟩ : ∃ x, (edges l')[j2]? = some x := ⟨_, List.getElem?_eq_getElem (by rw [H.out.2.2.2]; exact hjj)⟩
            have hx : Hid ((edges l')[j2]? = some x) := hx0
            have HX : Hid ((edges l').drop j2 = x :: (edges l').drop (j2 + 1)) := by
              obtain ⟨h1, h2⟩ := List.getElem?_eq_some_iff.1 hx0
              show _ = _
              rw [List.drop_eq_getElem_cons h1, h2]
            have d2 : (j2 : Int) < 2 * (n' : Int) := by omega
            have o1 := even_int j2
            clear hx0
            go_wp2_with (first
              | (go_at_call 73; have C := edge_any j2 ao' n' c' b' off' l' wr (H.out.2.1.below HS.out.1) x hx.out hj9; with_reducible refine Calls.mono C ?_; clear C; rintro e w1 ⟨rfl, hb1⟩; have HS1 : Hid (Below W.heap.size W w1 ∧ SpE W.heap.size w1 k y0 y1 s2) := hid ⟨HS.out.1.trans (hb1.mono HS.out.1.size), HS.out.2.below hb1⟩; clear hb1)
              | (with_reducible refine Calls.mono (HQ.out _ _ _) ?_; rintro e w3 ⟨rfl, hw3⟩; replace hw3 := hw3.symm; subst hw3)
              | (go_at_call 74; with_reducible refine Calls.mono (pass_any W.heap.size w1 k y0 y1 _ _ s2 HS1.out.2 hlen) ?_; rintro e w4 ⟨rfl, hs4, hb4⟩; have HS4 := hid hs4; have HB4 := hid (HS1.out.1.trans hb4); clear hs4 hb4))
            go_roundg (2 * n' - (j2 + 1))
            case measure => omega
            case rel =>
              refine ⟨j2 + 1, _, by simp, by omega, rfl, HB4.out, HS4.out, ?_, ?_⟩
              · have := pass_len y0 y1 x (f false (odd (j2 + 1))) s2
                omega
              · rw [← HO.out, HX.out, odd_succ]
                rfl
          · obtain rfl : j2 = 2 * n' := by omega
            have d2 : ¬ (((2 * n' : Nat) : Int) < 2 * (n' : Int)) := by omega
            go_wp2
            refine jump_normal ?_
            go_end0
            have e0 : (edges l').drop (2 * n') = [] := List.drop_eq_nil_of_le (by rw [H.out.2.2.2]; omega)
            have := HO.out
            rw [e0] at this
            rw [← this]
            exact ⟨rfl, HS.out.2, HS.out.1⟩
end Go.Proofs.Ytlakklpnajgjiaa
