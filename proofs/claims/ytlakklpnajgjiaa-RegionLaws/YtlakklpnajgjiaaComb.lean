/- Two regions put together: the contract. -/
import Derived.Test.YtlakklpnajgjiaaMerge
import Derived.Test.YtlakklpnajgjiaaSettle
namespace Go.Proofs.Ytlakklpnajgjiaa
open Num Go.RowKit
set_option linter.unusedVariables false

theorem run_min_i64 (w : World) (ts : Array TypeId) (t : TypeId) (a b : Int) : (Builtin.min_ ts t #[.int .i64 a, .int .i64 b]).run Try.prog w = .ok (.int .i64 (mn a b)) w := by
  simp only [Builtin.min_, List.foldlM, Builtin.min2]
  unfold mn
  by_cases c : a < b
  · rw [Int.min_eq_left (by omega)]; simp; omega
  · rw [Int.min_eq_right (by omega)]; simp; omega
theorem run_max_i64 (w : World) (ts : Array TypeId) (t : TypeId) (a b : Int) : (Builtin.max_ ts t #[.int .i64 a, .int .i64 b]).run Try.prog w = .ok (.int .i64 (mx a b)) w := by
  simp only [Builtin.max_, List.foldlM, Builtin.max2]
  unfold mx
  by_cases c : a < b
  · rw [Int.max_eq_right (by omega)]; simp; omega
  · rw [Int.max_eq_left (by omega)]; simp; omega
attribute [local go_sem ↓] run_min_i64 run_max_i64

theorem tailA_len (f : Bool → Bool → Bool) (y0 y1 : Int) : ∀ (l : List Int) (p : Bool) (s : St), (tailA f y0 y1 l p s).made.length ≤ s.made.length + l.length
  | [], p, s => Nat.le_refl _
  | x :: l, p, s => by
    have h1 := tailA_len f y0 y1 l (!p) (passS y0 y1 x (f (!p) false) s)
    have h2 := pass_len y0 y1 x (f (!p) false) s
    simp only [tailA, List.length_cons]
    omega
theorem tailB_len (f : Bool → Bool → Bool) (y0 y1 : Int) : ∀ (l : List Int) (p : Bool) (s : St), (tailB f y0 y1 l p s).made.length ≤ s.made.length + l.length
  | [], p, s => Nat.le_refl _
  | x :: l, p, s => by
    have h1 := tailB_len f y0 y1 l (!p) (passS y0 y1 x (f false (!p)) s)
    have h2 := pass_len y0 y1 x (f false (!p)) s
    simp only [tailB, List.length_cons]
    omega
theorem merge_len (f : Bool → Bool → Bool) (y0 y1 : Int) : ∀ (k : Nat) (l : List Int) (p : Bool) (m : List Int) (q : Bool) (s : St), (mergeS f y0 y1 k l p m q s).made.length ≤ s.made.length + l.length + m.length
  | 0, l, p, m, q, s => by simp only [mergeS]; omega
  | k + 1, [], p, m, q, s => by
    have := tailB_len f y0 y1 m q s
    rw [merge_over f y0 y1 k p q s (.inl rfl)]
    simp only [tailA, List.length_nil]
    omega
  | k + 1, x :: l, p, [], q, s => by
    have := tailA_len f y0 y1 (x :: l) p s
    rw [merge_over f y0 y1 k p q s (.inr rfl)]
    simp only [tailB, List.length_nil]
    omega
  | k + 1, x :: l, p, z :: m, q, s => by
    unfold mergeS
    split
    · have h1 := merge_len f y0 y1 k l (!p) (z :: m) q (passS y0 y1 x (f (!p) q) s)
      have h2 := pass_len y0 y1 x (f (!p) q) s
      simp only [List.length_cons] at *
      omega
    · split
      · have h1 := merge_len f y0 y1 k (x :: l) p m (!q) (passS y0 y1 z (f p (!q)) s)
        have h2 := pass_len y0 y1 z (f p (!q)) s
        simp only [List.length_cons] at *
        omega
      · have h1 := merge_len f y0 y1 k l (!p) m (!q) (passS y0 y1 x (f (!p) (!q)) s)
        have h2 := pass_len y0 y1 x (f (!p) (!q)) s
        simp only [List.length_cons] at *
        omega
theorem setY1_len (a b : List R) : (setY1 a b).length = min a.length b.length := by unfold setY1; exact List.length_zipWith
theorem settle_len (l : List R) {last at' : Nat} (h1 : last ≤ at') (h2 : at' ≤ l.length) : (settleL l last at').1.length ≤ l.length ∧ (settleL l last at').2 ≤ (settleL l last at').1.length := by
  unfold settleL
  split
  · exact ⟨Nat.le_refl _, by dsimp only; omega⟩
  · split
    · dsimp only
      rw [List.length_append, List.length_take, setY1_len, List.length_drop, List.length_take, List.length_drop]
      omega
    · exact ⟨Nat.le_refl _, h2⟩
theorem pass_grow (y0 y1 x : Int) (t : Bool) (s : St) : s.made.length ≤ (passS y0 y1 x t s).made.length := by
  unfold passS
  split
  · omega
  · dsimp only
    split
    · simp
    · omega
theorem tailA_grow (f : Bool → Bool → Bool) (y0 y1 : Int) : ∀ (l : List Int) (p : Bool) (s : St), s.made.length ≤ (tailA f y0 y1 l p s).made.length
  | [], p, s => Nat.le_refl _
  | x :: l, p, s => Nat.le_trans (pass_grow y0 y1 x _ s) (tailA_grow f y0 y1 l (!p) _)
theorem tailB_grow (f : Bool → Bool → Bool) (y0 y1 : Int) : ∀ (l : List Int) (p : Bool) (s : St), s.made.length ≤ (tailB f y0 y1 l p s).made.length
  | [], p, s => Nat.le_refl _
  | x :: l, p, s => Nat.le_trans (pass_grow y0 y1 x _ s) (tailB_grow f y0 y1 l (!p) _)
theorem merge_grow (f : Bool → Bool → Bool) (y0 y1 : Int) : ∀ (k : Nat) (l : List Int) (p : Bool) (m : List Int) (q : Bool) (s : St), s.made.length ≤ (mergeS f y0 y1 k l p m q s).made.length
  | 0, l, p, m, q, s => Nat.le_refl _
  | k + 1, [], p, m, q, s => by rw [merge_over f y0 y1 k p q s (.inl rfl)]; exact tailB_grow f y0 y1 m q s
  | k + 1, x :: l, p, [], q, s => by rw [merge_over f y0 y1 k p q s (.inr rfl)]; exact tailA_grow f y0 y1 (x :: l) p s
  | k + 1, x :: l, p, z :: m, q, s => by
    unfold mergeS
    split
    · exact Nat.le_trans (pass_grow y0 y1 x _ s) (merge_grow f y0 y1 k _ _ _ _ _)
    · split
      · exact Nat.le_trans (pass_grow y0 y1 z _ s) (merge_grow f y0 y1 k _ _ _ _ _)
      · exact Nat.le_trans (pass_grow y0 y1 x _ s) (merge_grow f y0 y1 k _ _ _ _ _)
theorem band_len (a : List R) (y : Int) : (bandL a y).length ≤ a.length := by
  unfold bandL
  split
  · simp
  · split
    · simp
    · exact first_le _
theorem below_len (a : List R) (y : Int) : (belowL a y).length ≤ a.length := by
  unfold belowL
  split
  · simp
  · split
    · simp
    · rw [List.length_drop]; omega

theorem retV {w : World} {e : Ending} {l : List R} (h : RetV w e l) : ∃ ao n c b off, e = .returned (.slice ao n c) ∧ Vw w ao n c b off l := h
theorem retO {B : Nat} {w : World} {e : Ending} {l : List R} (h : RetO B w e l) : ∃ ao n c b off, e = .returned (.slice ao n c) ∧ Ow B w ao n c b off l := h
theorem retT {B : Nat} {w : World} {e : Ending} {l : List R} {k : Nat} (h : RetT B w e l k) : ∃ ao n c b off, e = .returned (.tuple #[.slice ao n c, .int .i64 k]) ∧ Ow B w ao n c b off l := h
theorem spE {B : Nat} {w : World} {k : Nat} {y0 y1 : Int} {s : St} (h : SpE B w k y0 y1 s) : ∃ ao n c b off, Sp B w k y0 y1 s ao n c b off := h
theorem le_of_eq' {a b c : Nat} (h : a ≤ b) (e : b = c) : a ≤ c := e ▸ h
theorem settle_at {made : List R} {m m2 : Nat} (h : made.length = m) {w : World} {ao : Option Addr} {c b off : Nat} {f : Bool → Bool → Bool} {y0 y1 : Int} {k : Nat} {l' : List Int} {p : Bool} {m' : List Int} {q : Bool} (hv : Vw w ao m2 c b off (mergeS f y0 y1 k l' p m' q ⟨made, false, 0⟩).made) : m ≤ m2 := by
  rw [← h, ← vw_len hv]
  exact merge_grow f y0 y1 k l' p m' q ⟨made, false, 0⟩
theorem comb_step {f : Bool → Bool → Bool} {g : Nat} {la lb : List R} {y : Int} {last : Nat} {made out : List R} (h : combL f (g + 1) la lb y last made = some out) (hd : ¬ (la = [] ∧ lb = [])) {n3 n4 m : Nat} (h3 : (bandL la y).length = n3) (h4 : (bandL lb y).length = n4) (hm : made.length = m) :
    combL f g (belowL la (mn (nextE la y) (nextE lb y))) (belowL lb (mn (nextE la y) (nextE lb y))) (mn (nextE la y) (nextE lb y))
      (settleL (mergeS f y (mn (nextE la y) (nextE lb y)) (2 * n3 + 2 * n4 + 1) (edges (bandL la y)) false (edges (bandL lb y)) false ⟨made, false, 0⟩).made last m).2
      (settleL (mergeS f y (mn (nextE la y) (nextE lb y)) (2 * n3 + 2 * n4 + 1) (edges (bandL la y)) false (edges (bandL lb y)) false ⟨made, false, 0⟩).made last m).1 = some out := by
  subst h3 h4 hm
  unfold combL at h
  rw [if_neg hd] at h
  simp only [edges_len] at h
  exact h
theorem comb_made {f : Bool → Bool → Bool} {g T : Nat} {la lb : List R} {y z : Int} {last : Nat} {made : List R} {n3 n4 m : Nat} (h3 : (bandL la y).length = n3) (h4 : (bandL lb y).length = n4) (hm : made.length = m) (hl : last ≤ made.length)
    (hT : 2 * (la.length + lb.length) ≤ T) (hM : made.length + (g * T + T) ≤ 4000000000000 - 1) :
    (settleL (mergeS f y z (2 * n3 + 2 * n4 + 1) (edges (bandL la y)) false (edges (bandL lb y)) false ⟨made, false, 0⟩).made last m).2 ≤
      (settleL (mergeS f y z (2 * n3 + 2 * n4 + 1) (edges (bandL la y)) false (edges (bandL lb y)) false ⟨made, false, 0⟩).made last m).1.length ∧
    (settleL (mergeS f y z (2 * n3 + 2 * n4 + 1) (edges (bandL la y)) false (edges (bandL lb y)) false ⟨made, false, 0⟩).made last m).1.length + g * T ≤ 4000000000000 - 1 := by
  subst hm
  have h1 := merge_grow f y z (2 * n3 + 2 * n4 + 1) (edges (bandL la y)) false (edges (bandL lb y)) false ⟨made, false, 0⟩
  have h2 := merge_len f y z (2 * n3 + 2 * n4 + 1) (edges (bandL la y)) false (edges (bandL lb y)) false ⟨made, false, 0⟩
  have h5 := settle_len (mergeS f y z (2 * n3 + 2 * n4 + 1) (edges (bandL la y)) false (edges (bandL lb y)) false ⟨made, false, 0⟩).made hl h1
  have h6 := band_len la y
  have h7 := band_len lb y
  rw [edges_len, edges_len] at h2
  dsimp only at h1 h2
  exact ⟨h5.2, by omega⟩
theorem comb_bd {m g T na nb : Nat} {la lb : List R} {y : Int} (h1 : m + (g * T + T) ≤ 4000000000000 - 1) (h2 : 2 * (la.length + lb.length) ≤ T) (h3 : (bandL la y).length = na) (h4 : (bandL lb y).length = nb) : m + 2 * na + 2 * nb < 4000000000000 := by
  have h5 := band_len la y
  have h6 := band_len lb y
  have h7 : 0 ≤ g * T := Nat.zero_le _
  omega

set_option maxRecDepth 100000 in
set_option maxHeartbeats 4000000 in
theorem combine_any (q : Nat) (f : Bool → Bool → Bool) (he : ∀ (args : Array Value) (w : World), (callFunc q args).run Try.prog w = .ok (.enter q args) w) (hq : ∀ x y w, Calls Try.prog q #[.bool x, .bool y] w fun e w' => e = .returned (.bool (f x y)) ∧ w' = w)
    (W : World) (ao : Option Addr) (n c b off : Nat) (l : List R) (ao' : Option Addr) (n' c' b' off' : Nat) (l' : List R) (hv : Vw W ao n c b off l) (hv' : Vw W ao' n' c' b' off' l')
    (hN : l.length + l'.length ≤ 900000) (out : List R) (ho : comb f l l' = some out) :
    Calls Try.prog 39 #[.slice ao n c, .slice ao' n' c', .func (.func q) #[] #[]] W fun e w' => RetO W.heap.size w' e out ∧ Below W.heap.size W w' := by
  have HV : Hid (Vw W ao n c b off l ∧ Vw W ao' n' c' b' off' l') := ⟨hv, hv'⟩
  have HO : Hid (comb f l l' = some out) := ho
  have HE : Hid (∀ (args : Array Value) (w : World), (callFunc q args).run Try.prog w = .ok (.enter q args) w) := he
  have HQ : Hid (∀ x y w, Calls Try.prog q #[.bool x, .bool y] w fun e w' => e = .returned (.bool (f x y)) ∧ w' = w) := hq
  obtain ⟨T, hT⟩ : ∃ T, T = 2 * (l.length + l'.length) := ⟨_, rfl⟩
  have HT : Hid (T = 2 * (l.length + l'.length)) := hT
  have hT9 : T ≤ 1800000 := by omega
  clear hv hv' ho he hq hT
  go_enter Try.func39, Try.ntmps39
  go_wp2
  go_loopg [0, 1, 7, 8, 9] (2 * (l.length + l'.length) + 1) (fun g v0 v1 v7 v8 v9 wr => ∃ ao n c b off la ao' n' c' b' off' lb mo mn mc mb moff made last y, v0 = .slice ao n c ∧ v1 = .slice ao' n' c' ∧ v7 = .slice mo mn mc ∧ v8 = .int .i64 (last : Nat) ∧ v9 = .int .i64 y ∧ Vw W ao n c b off la ∧ Vw W ao' n' c' b' off' lb ∧ Ow W.heap.size wr mo mn mc mb moff made ∧ Below W.heap.size W wr ∧ last ≤ made.length ∧ 2 * (la.length + lb.length) ≤ T ∧ made.length + g * T ≤ 4000000000000 - 1 ∧ g ≤ 2 * (l.length + l'.length) + 1 ∧ combL f g la lb y last made = some out)
  case atStart =>
    refine ⟨_, _, _, _, _, l, _, _, _, _, _, l', _, _, _, 0, 0, [], 0, _, rfl, rfl, rfl, rfl, rfl, HV.out.1, HV.out.2, oz_nil _ _ _ _, Below.refl _ _, Nat.le_refl _, by rw [HT.out]; exact Nat.le_refl _, ?_, Nat.le_refl _, HO.out⟩
    have h1 : (2 * (l.length + l'.length) + 1) * T ≤ 1800001 * 1800000 := Nat.mul_le_mul (by omega) hT9
    simp only [List.length_nil]
    omega
  case round =>
    obtain ⟨ao1, n1, c1, b1, off1, la, ao2, n2, c2, b2, off2, lb, mo, mn1, mc, mb, moff, made, last, y, rfl, rfl, rfl, rfl, rfl, hva, hvb, hO, hB, hlast, hab, hM, hg, hcomb⟩ := hrel
    cases gk with
    | zero => cases hcomb
    | succ g =>
    have hna := vw_len hva
    have hnb := vw_len hvb
    have hmn := vw_len hO.v
    have hn1 := vw_small hva
    have hn2 := vw_small hvb
    by_cases hd : la = [] ∧ lb = []
    · obtain ⟨rfl, rfl⟩ := hd
      simp at hna hnb
      subst hna
      subst hnb
      have e : made = out := by simpa [combL] using hcomb
      subst e
      have HO := hid hO
      have HB := hid hB
      clear hO hB hcomb hva hvb
      go_wp2
      go_ret
      exact ⟨⟨_, _, _, _, _, rfl, HO.out⟩, HB.out⟩
    · have hor : 0 < n1 ∨ (n1 = 0 ∧ 0 < n2) := by
        rw [← hna, ← hnb]
        rcases Nat.eq_zero_or_pos la.length with h0 | h0
        · refine .inr ⟨h0, ?_⟩
          rcases Nat.eq_zero_or_pos lb.length with h1 | h1
          · exact absurd ⟨List.length_eq_zero_iff.1 h0, List.length_eq_zero_iff.1 h1⟩ hd
          · exact h1
        · exact .inl h0
      have HC := hid hcomb
      have HVV : Hid (Vw W ao1 n1 c1 b1 off1 la ∧ Vw W ao2 n2 c2 b2 off2 lb) := ⟨hva, hvb⟩
      have HOB : Hid (Ow W.heap.size wr mo mn1 mc mb moff made ∧ Below W.heap.size W wr ∧ made.length = mn1 ∧ la.length = n1 ∧ lb.length = n2) := ⟨hO, hB, hmn, hna, hnb⟩
      have HD := hid hd
      have hmul : (g + 1) * T = g * T + T := by rw [Nat.add_mul, Nat.one_mul]
      have HM : Hid (made.length + (g * T + T) ≤ 4000000000000 - 1) := by rw [← hmul]; exact hM
      have HLa : Hid (last ≤ made.length ∧ 2 * (la.length + lb.length) ≤ T ∧ g + 1 ≤ 2 * (l.length + l'.length) + 1) := ⟨hlast, hab, hg⟩
      have HS5 : Hid (SpE W.heap.size (wr.alloc (.cells #[.int .i64 y, .int .i64 (mn (nextE la y) (nextE lb y)), .slice mo mn1 mc, .bool false, .int .i64 0] 60)) wr.heap.size y (mn (nextE la y) (nextE lb y)) ⟨made, false, 0⟩ ∧ Below W.heap.size W (wr.alloc (.cells #[.int .i64 y, .int .i64 (mn (nextE la y) (nextE lb y)), .slice mo mn1 mc, .bool false, .int .i64 0] 60))) := by
        refine ⟨⟨mo, mn1, mc, mb, moff, ⟨by simp, by simp, by simp, by simp, by simp, fun j => by simp [go_sem]⟩, hO.below ((Below.refl _ _).alloc (Nat.le_refl _) _), hB.size, fun hc => Nat.ne_of_lt (hO.new hc).2⟩, hB.alloc hB.size _⟩
      clear hO hB hcomb hva hvb hmn hna hnb hd hM hmul hlast hab hg
      rcases hor with hp | ⟨hp, hp'⟩
      · have hp0 : (0 : Int) < (n1 : Int) := by omega
        go_wp2_with (first
          | (go_at_call 58; have C := nextEdge_any y ao1 n1 c1 b1 off1 la wr (HVV.out.1.below HOB.out.2.1); with_reducible refine Calls.mono C ?_; clear C; rintro e w1 ⟨rfl, hw1⟩; replace hw1 := hw1.symm; subst hw1)
          | (go_at_call 58; have C := nextEdge_any y ao2 n2 c2 b2 off2 lb wr (HVV.out.2.below HOB.out.2.1); with_reducible refine Calls.mono C ?_; clear C; rintro e w1 ⟨rfl, hw1⟩; replace hw1 := hw1.symm; subst hw1)
          | (go_at_call 60; have C := bandAt_any y ao1 n1 c1 b1 off1 la W (wr.alloc (.cells #[.int .i64 y, .int .i64 (mn (nextE la y) (nextE lb y)), .slice mo mn1 mc, .bool false, .int .i64 0] 60)) HVV.out.1 HS5.out.2; with_reducible refine Calls.mono C ?_; clear C; rintro e w6 ⟨hr6, hb6⟩; obtain ⟨ao3, n3, c3, b3, off3, rfl, hv3⟩ := retV hr6; have HS6 : Hid (SpE W.heap.size w6 wr.heap.size y (mn (nextE la y) (nextE lb y)) ⟨made, false, 0⟩ ∧ Below W.heap.size W w6 ∧ Vw W ao3 n3 c3 b3 off3 (bandL la y)) := hid ⟨HS5.out.1.below hb6, HS5.out.2.trans (hb6.mono HS5.out.2.size), hv3⟩; clear hr6 hb6 hv3)
          | (go_at_call 60; have C := bandAt_any y ao2 n2 c2 b2 off2 lb W w6 HVV.out.2 HS6.out.2.1; with_reducible refine Calls.mono C ?_; clear C; rintro e w7 ⟨hr7, hb7⟩; obtain ⟨ao4, n4, c4, b4, off4, rfl, hv4⟩ := retV hr7; have HS7 : Hid (SpE W.heap.size w7 wr.heap.size y (mn (nextE la y) (nextE lb y)) ⟨made, false, 0⟩ ∧ Below W.heap.size W w7 ∧ Vw W ao4 n4 c4 b4 off4 (bandL lb y)) := hid ⟨HS6.out.1.below hb7, HS6.out.2.1.trans (hb7.mono HS6.out.2.1.size), hv4⟩; clear hr7 hb7 hv4)
          | (go_at_call 59; have C := merge_any q f HE.out HQ.out W ao3 n3 c3 b3 off3 (bandL la y) ao4 n4 c4 b4 off4 (bandL lb y) HS6.out.2.2 HS7.out.2.2 w7 HS7.out.2.1 wr.heap.size y (mn (nextE la y) (nextE lb y)) ⟨made, false, 0⟩ HS7.out.1 (made.length + 2 * n3 + 2 * n4) (Nat.le_refl _) (comb_bd HM.out HLa.out.2.1 (vw_len HS6.out.2.2) (vw_len HS7.out.2.2)) _ rfl; with_reducible refine Calls.mono C ?_; clear C; rintro e w8 ⟨rfl, hs8, hb8⟩; obtain ⟨mo2, m2, mc2, mb2, moff2, hsp⟩ := spE hs8; have hc2 := hsp.five.c2; have HS8 := hid (And.intro hsp hb8); clear hs8 hb8 hsp)
          | (go_at_call 61; have C := settle_any W mo2 m2 mc2 mb2 moff2 _ last mn1 w8 HS8.out.2 HS8.out.1.own (le_of_eq' HLa.out.1 HOB.out.2.2.1) (settle_at HOB.out.2.2.1 HS8.out.1.own.v); with_reducible refine Calls.mono C ?_; clear C; rintro e w9 ⟨hr9, hb9⟩; obtain ⟨mo3, m3, mc3, mb3, moff3, rfl, hO9⟩ := retT hr9; have HS9 := hid (And.intro hO9 hb9); clear hr9 hb9 hO9)
          | (go_at_call 62; have C := below_any (mn (nextE la y) (nextE lb y)) ao1 n1 c1 b1 off1 la W w9 HVV.out.1 HS9.out.2; with_reducible refine Calls.mono C ?_; clear C; rintro e w10 ⟨hr10, hb10⟩; obtain ⟨ao5, n5, c5, b5, off5, rfl, hv5⟩ := retV hr10; have HS10 : Hid (Ow W.heap.size w10 mo3 m3 mc3 mb3 moff3 _ ∧ Below W.heap.size W w10 ∧ Vw W ao5 n5 c5 b5 off5 (belowL la (mn (nextE la y) (nextE lb y)))) := hid ⟨HS9.out.1.below hb10, HS9.out.2.trans (hb10.mono HS9.out.2.size), hv5⟩; clear hr10 hb10 hv5)
          | (go_at_call 62; have C := below_any (mn (nextE la y) (nextE lb y)) ao2 n2 c2 b2 off2 lb W w10 HVV.out.2 HS10.out.2.1; with_reducible refine Calls.mono C ?_; clear C; rintro e w11 ⟨hr11, hb11⟩; obtain ⟨ao6, n6, c6, b6, off6, rfl, hv6⟩ := retV hr11; have HS11 : Hid (Ow W.heap.size w11 mo3 m3 mc3 mb3 moff3 _ ∧ Below W.heap.size W w11 ∧ Vw W ao6 n6 c6 b6 off6 (belowL lb (mn (nextE la y) (nextE lb y)))) := hid ⟨HS10.out.1.below hb11, HS10.out.2.1.trans (hb11.mono HS10.out.2.1.size), hv6⟩; clear hr11 hb11 hv6))
        go_roundg g
        case measure => omega
        case rel =>
          refine ⟨_, _, _, _, _, _, _, _, _, _, _, _, _, _, _, _, _, _, _, _, rfl, rfl, rfl, rfl, rfl, HS10.out.2.2, HS11.out.2.2, HS11.out.1, HS11.out.2.1, ?_, ?_, ?_, by have := HLa.out.2.2; omega, ?_⟩
          · exact (comb_made (vw_len HS6.out.2.2) (vw_len HS7.out.2.2) HOB.out.2.2.1 HLa.out.1 HLa.out.2.1 HM.out).1
          · have h1 := below_len la (mn (nextE la y) (nextE lb y))
            have h2 := below_len lb (mn (nextE la y) (nextE lb y))
            have h3 := HLa.out.2.1
            omega
          · exact (comb_made (vw_len HS6.out.2.2) (vw_len HS7.out.2.2) HOB.out.2.2.1 HLa.out.1 HLa.out.2.1 HM.out).2
          · exact comb_step HC.out HD.out (vw_len HS6.out.2.2) (vw_len HS7.out.2.2) HOB.out.2.2.1
      · subst hp
        have hp0 : (0 : Int) < (n2 : Int) := by omega
        go_wp2_with (first
          | (go_at_call 58; have C := nextEdge_any y ao1 0 c1 b1 off1 la wr (HVV.out.1.below HOB.out.2.1); with_reducible refine Calls.mono C ?_; clear C; rintro e w1 ⟨rfl, hw1⟩; replace hw1 := hw1.symm; subst hw1)
          | (go_at_call 58; have C := nextEdge_any y ao2 n2 c2 b2 off2 lb wr (HVV.out.2.below HOB.out.2.1); with_reducible refine Calls.mono C ?_; clear C; rintro e w1 ⟨rfl, hw1⟩; replace hw1 := hw1.symm; subst hw1)
          | (go_at_call 60; have C := bandAt_any y ao1 0 c1 b1 off1 la W (wr.alloc (.cells #[.int .i64 y, .int .i64 (mn (nextE la y) (nextE lb y)), .slice mo mn1 mc, .bool false, .int .i64 0] 60)) HVV.out.1 HS5.out.2; with_reducible refine Calls.mono C ?_; clear C; rintro e w6 ⟨hr6, hb6⟩; obtain ⟨ao3, n3, c3, b3, off3, rfl, hv3⟩ := retV hr6; have HS6 : Hid (SpE W.heap.size w6 wr.heap.size y (mn (nextE la y) (nextE lb y)) ⟨made, false, 0⟩ ∧ Below W.heap.size W w6 ∧ Vw W ao3 n3 c3 b3 off3 (bandL la y)) := hid ⟨HS5.out.1.below hb6, HS5.out.2.trans (hb6.mono HS5.out.2.size), hv3⟩; clear hr6 hb6 hv3)
          | (go_at_call 60; have C := bandAt_any y ao2 n2 c2 b2 off2 lb W w6 HVV.out.2 HS6.out.2.1; with_reducible refine Calls.mono C ?_; clear C; rintro e w7 ⟨hr7, hb7⟩; obtain ⟨ao4, n4, c4, b4, off4, rfl, hv4⟩ := retV hr7; have HS7 : Hid (SpE W.heap.size w7 wr.heap.size y (mn (nextE la y) (nextE lb y)) ⟨made, false, 0⟩ ∧ Below W.heap.size W w7 ∧ Vw W ao4 n4 c4 b4 off4 (bandL lb y)) := hid ⟨HS6.out.1.below hb7, HS6.out.2.1.trans (hb7.mono HS6.out.2.1.size), hv4⟩; clear hr7 hb7 hv4)
          | (go_at_call 59; have C := merge_any q f HE.out HQ.out W ao3 n3 c3 b3 off3 (bandL la y) ao4 n4 c4 b4 off4 (bandL lb y) HS6.out.2.2 HS7.out.2.2 w7 HS7.out.2.1 wr.heap.size y (mn (nextE la y) (nextE lb y)) ⟨made, false, 0⟩ HS7.out.1 (made.length + 2 * n3 + 2 * n4) (Nat.le_refl _) (comb_bd HM.out HLa.out.2.1 (vw_len HS6.out.2.2) (vw_len HS7.out.2.2)) _ rfl; with_reducible refine Calls.mono C ?_; clear C; rintro e w8 ⟨rfl, hs8, hb8⟩; obtain ⟨mo2, m2, mc2, mb2, moff2, hsp⟩ := spE hs8; have hc2 := hsp.five.c2; have HS8 := hid (And.intro hsp hb8); clear hs8 hb8 hsp)
          | (go_at_call 61; have C := settle_any W mo2 m2 mc2 mb2 moff2 _ last mn1 w8 HS8.out.2 HS8.out.1.own (le_of_eq' HLa.out.1 HOB.out.2.2.1) (settle_at HOB.out.2.2.1 HS8.out.1.own.v); with_reducible refine Calls.mono C ?_; clear C; rintro e w9 ⟨hr9, hb9⟩; obtain ⟨mo3, m3, mc3, mb3, moff3, rfl, hO9⟩ := retT hr9; have HS9 := hid (And.intro hO9 hb9); clear hr9 hb9 hO9)
          | (go_at_call 62; have C := below_any (mn (nextE la y) (nextE lb y)) ao1 0 c1 b1 off1 la W w9 HVV.out.1 HS9.out.2; with_reducible refine Calls.mono C ?_; clear C; rintro e w10 ⟨hr10, hb10⟩; obtain ⟨ao5, n5, c5, b5, off5, rfl, hv5⟩ := retV hr10; have HS10 : Hid (Ow W.heap.size w10 mo3 m3 mc3 mb3 moff3 _ ∧ Below W.heap.size W w10 ∧ Vw W ao5 n5 c5 b5 off5 (belowL la (mn (nextE la y) (nextE lb y)))) := hid ⟨HS9.out.1.below hb10, HS9.out.2.trans (hb10.mono HS9.out.2.size), hv5⟩; clear hr10 hb10 hv5)
          | (go_at_call 62; have C := below_any (mn (nextE la y) (nextE lb y)) ao2 n2 c2 b2 off2 lb W w10 HVV.out.2 HS10.out.2.1; with_reducible refine Calls.mono C ?_; clear C; rintro e w11 ⟨hr11, hb11⟩; obtain ⟨ao6, n6, c6, b6, off6, rfl, hv6⟩ := retV hr11; have HS11 : Hid (Ow W.heap.size w11 mo3 m3 mc3 mb3 moff3 _ ∧ Below W.heap.size W w11 ∧ Vw W ao6 n6 c6 b6 off6 (belowL lb (mn (nextE la y) (nextE lb y)))) := hid ⟨HS10.out.1.below hb11, HS10.out.2.1.trans (hb11.mono HS10.out.2.1.size), hv6⟩; clear hr11 hb11 hv6))
        go_roundg g
        case measure => omega
        case rel =>
          refine ⟨_, _, _, _, _, _, _, _, _, _, _, _, _, _, _, _, _, _, _, _, rfl, rfl, rfl, rfl, rfl, HS10.out.2.2, HS11.out.2.2, HS11.out.1, HS11.out.2.1, ?_, ?_, ?_, by have := HLa.out.2.2; omega, ?_⟩
          · exact (comb_made (vw_len HS6.out.2.2) (vw_len HS7.out.2.2) HOB.out.2.2.1 HLa.out.1 HLa.out.2.1 HM.out).1
          · have h1 := below_len la (mn (nextE la y) (nextE lb y))
            have h2 := below_len lb (mn (nextE la y) (nextE lb y))
            have h3 := HLa.out.2.1
            omega
          · exact (comb_made (vw_len HS6.out.2.2) (vw_len HS7.out.2.2) HOB.out.2.2.1 HLa.out.1 HLa.out.2.1 HM.out).2
          · exact comb_step HC.out HD.out (vw_len HS6.out.2.2) (vw_len HS7.out.2.2) HOB.out.2.2.1
end Go.Proofs.Ytlakklpnajgjiaa
