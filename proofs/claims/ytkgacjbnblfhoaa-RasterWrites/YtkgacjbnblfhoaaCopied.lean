/- A copy of a buffer, the document's new one, one pixel's place: contracts. -/
import Derived.Test.YtkgacjbnblfhoaaGrows
import Derived.Test.YtkgacjbnblfhoaaNewB
import Derived.BigQuiet
import Derived.Deep.QuietTactic
namespace Go.Proofs.Ytkgacjbnblfhoaa
open Num Go.RowKit
set_option linter.unusedVariables false
set_option linter.unusedSimpArgs false
attribute [local go_sem ↓] run_app
attribute [local go_sem] lenV_slice

set_option maxRecDepth 100000 in
set_option maxHeartbeats 2000000 in
theorem copied_any (B : R) (ao : Option Addr) (n m g off : Nat) (l : List X) (w : World) (hn : n ≤ 5000) (h : Vx w ao n m g off l) :
    Calls Try.prog 10 #[.agg #[.int .i64 B.x0, .int .i64 B.y0, .int .i64 B.x1, .int .i64 B.y1, .slice ao n m]] w fun e w' => RetB w.heap.size w' e B l ∧ Below w.heap.size w w' := by
  obtain ⟨W1, hW1⟩ : ∃ W1, W1 = ((w.alloc (.cells #[.int .i64 B.x0, .int .i64 B.y0, .int .i64 B.x1, .int .i64 B.y1, .slice ao n m] 26)).alloc (.cells #[.int .i64 0, .int .i64 0, .int .i64 0, .int .i64 0, .slice none 0 0] 26)).alloc (.cells #[] 28) := ⟨_, rfl⟩
  have HA : Hid (Has5 W1 w.heap.size B ao n m ∧ Has5 W1 (w.heap.size + 1) ⟨0, 0, 0, 0⟩ none 0 0 ∧ Below w.heap.size w W1 ∧ W1.heap.size = w.heap.size + 1 + 1 + 1) := by
    subst hW1
    exact ⟨((Has5.new rfl _ _ _ _ _ _ _ _).alloc _).alloc _, (Has5.new (by simp) _ _ _ _ _ _ _ _).alloc _, (((Below.refl _ _).alloc (Nat.le_refl _) _).alloc (by simp) _).alloc (by simp; omega) _, by simp⟩
  obtain ⟨b', off', hAp⟩ := app_own (sz := 4) (B := w.heap.size + 1 + 1) (w := W1) (ao := some ⟨w.heap.size + 1 + 1, 0, none⟩) (oz_nil 4 _ _ _) (by rw [HA.out.2.2.2]; omega) 24 24 24 28 _ 4 Try.underlying24 info28 rfl (.slice ao n m) n (flat l) (src_px (h.below HA.out.2.2.1)) (by simp only [maxLen]; omega) (by omega)
  have hF := hAp.fine
  rw [Nat.zero_add] at hF
  have h1 := hAp.own
  rw [Nat.zero_add, List.nil_append] at h1
  have HP := hid (And.intro h1 (And.intro (has5_low HA.out.1 hAp.below (by omega)) (And.intro (has5_low HA.out.2.1 hAp.below (by omega)) (HA.out.2.2.1.trans (hAp.below.mono (by omega))))))
  obtain ⟨p0, p1, p2, p3, p4, pf⟩ := HP.out.2.1
  obtain ⟨q0, q1, q2, q3, q4, qf⟩ := HP.out.2.2.1
  obtain ⟨s0, s1, s2, s3, s4, sf⟩ := HA.out.1
  clear h hAp h1
  subst hW1
  go_enter Try.func10, Try.ntmps10
  go_wp2
  clear p0 p1 p2 p3 p4 pf q0 q1 q2 q3 q4 qf s0 s1 s2 s3 s4 sf hF
  generalize apA Try.prog #[24, 24] 24 (((w.alloc (.cells #[.int .i64 B.x0, .int .i64 B.y0, .int .i64 B.x1, .int .i64 B.y1, .slice ao n m] 26)).alloc (.cells #[.int .i64 0, .int .i64 0, .int .i64 0, .int .i64 0, .slice none 0 0] 26)).alloc (.cells #[] 28)) (.slice (some ⟨w.heap.size + 1 + 1, 0, none⟩) 0 0) (.slice ao n m) = ra at HP ⊢
  generalize apC Try.prog #[24, 24] 24 (((w.alloc (.cells #[.int .i64 B.x0, .int .i64 B.y0, .int .i64 B.x1, .int .i64 B.y1, .slice ao n m] 26)).alloc (.cells #[.int .i64 0, .int .i64 0, .int .i64 0, .int .i64 0, .slice none 0 0] 26)).alloc (.cells #[] 28)) (.slice (some ⟨w.heap.size + 1 + 1, 0, none⟩) 0 0) (.slice ao n m) = rc at HP ⊢
  generalize apW Try.prog #[24, 24] 24 (((w.alloc (.cells #[.int .i64 B.x0, .int .i64 B.y0, .int .i64 B.x1, .int .i64 B.y1, .slice ao n m] 26)).alloc (.cells #[.int .i64 0, .int .i64 0, .int .i64 0, .int .i64 0, .slice none 0 0] 26)).alloc (.cells #[] 28)) (.slice (some ⟨w.heap.size + 1 + 1, 0, none⟩) 0 0) (.slice ao n m) = rw at HP ⊢
  have H1 := has5_slice HP.out.2.1 ra n rc
  have hb1 := but_cell rw w.heap.size 4 (.slice ra n rc)
  have H2 := HP.out.2.2.1.but hb1 (by omega)
  have H3 := HP.out.1.but hb1 (fun hc => by have := (HP.out.1.new hc).1; omega)
  have H4 : Below w.heap.size w (rw.setCell ⟨w.heap.size, 4, none⟩ (.slice ra n rc)) := HP.out.2.2.2.setCell (p := ⟨w.heap.size, 4, none⟩) (Nat.le_refl _) _
  obtain ⟨s0, s1, s2, s3, s4⟩ := set5 H2.c0 H2.c1 H2.c2 H2.c3 H2.c4 (.int .i64 B.x0) (.int .i64 B.y0) (.int .i64 B.x1) (.int .i64 B.y1) (.slice ra n rc)
  refine bodyPost_ret (v := .agg #[.int .i64 B.x0, .int .i64 B.y0, .int .i64 B.x1, .int .i64 B.y1, .slice ra n rc]) (by simp [results, Try.results10, go_sem, s0, s1, s2, s3, s4]) rfl ⟨⟨_, _, _, b', off', rfl, ?_⟩, ?_⟩
  · exact (H3.but (but_set5 _ _ _ _ _ _ _) (fun hc => by have := (HP.out.1.new hc).1; omega)).mono (by omega)
  · exact below_set5 H4 (by omega) _ _ _ _ _

/-- a rectangle's cells -/
abbrev S4c (k : Nat) (a b c d : Int) (w' : World) : Prop := w'.cell? ⟨k, 0, none⟩ = some (.int .i64 a) ∧ w'.cell? ⟨k, 1, none⟩ = some (.int .i64 b) ∧ w'.cell? ⟨k, 2, none⟩ = some (.int .i64 c) ∧ w'.cell? ⟨k, 3, none⟩ = some (.int .i64 d)
theorem s4c_block {k : Nat} {a b c d : Int} {w1 w2 : World} (h : S4c k a b c d w1) (e : w2.heap[k]? = w1.heap[k]?) : S4c k a b c d w2 := by
  have e1 := fun o => World.cell?_of_block (a := ⟨k, o, none⟩) e
  obtain ⟨c0, c1, c2, c3⟩ := h
  exact ⟨by rw [e1]; exact c0, by rw [e1]; exact c1, by rw [e1]; exact c2, by rw [e1]; exact c3⟩
theorem s4c_below {k : Nat} {a b c d : Int} {w1 w2 : World} (h : S4c k a b c d w1) (hb : Below w1.heap.size w1 w2) : S4c k a b c d w2 := s4c_block h (hb.block k (World.block_lt_of_cell? w1 ⟨k, 0, none⟩ h.1))
theorem s4c_drew {k : Nat} {a b c d : Int} {w1 : World} (h : S4c k a b c d w1) : S4c k a b c d w1.drew := s4c_below h (Below.refl _ _).drew
theorem s4c_alloc {k : Nat} {a b c d : Int} {w1 : World} {o : Obj} (h : S4c k a b c d w1) : S4c k a b c d (w1.alloc o) := s4c_below h ((Below.refl _ _).alloc (Nat.le_refl _) _)
theorem s4c_set5 {k j : Nat} {a b c d : Int} {w1 : World} {v0 v1 v2 v3 v4 : Value} (h : S4c k a b c d w1) (hj : k ≠ j) : S4c k a b c d (((((w1.setCell ⟨j, 0, none⟩ v0).setCell ⟨j, 1, none⟩ v1).setCell ⟨j, 2, none⟩ v2).setCell ⟨j, 3, none⟩ v3).setCell ⟨j, 4, none⟩ v4) :=
  s4c_block h ((but_set5 w1 j v0 v1 v2 v3 v4).block k (World.block_lt_of_cell? w1 ⟨k, 0, none⟩ h.1) hj)

set_option maxHeartbeats 2000000 in
theorem refNew_any (a b c d : Int) (w : World) (ho : Ok ⟨a, b, c, d⟩) (ha : area ⟨a, b, c, d⟩ ≤ 5000) :
    Calls Try.prog 34 #[.agg #[.int .i64 a, .int .i64 b, .int .i64 c, .int .i64 d]] w fun e w' => RetB w.heap.size w' e (orN ⟨a, b, c, d⟩) (img (orN ⟨a, b, c, d⟩) fun _ _ => noX) ∧ Below w.heap.size w w' := by
  have H4 : Hid (Rc.Has4 ((w.alloc (.cells #[.int .i64 a, .int .i64 b, .int .i64 c, .int .i64 d] 23)).alloc (.cells #[.int .i64 0, .int .i64 0, .int .i64 0, .int .i64 0, .slice none 0 0] 26)) w.heap.size (.int .i64 a) (.int .i64 b) (.int .i64 c) (.int .i64 d)) := (Rc.Has4.new rfl _ _ _ _ _).alloc _
  have H5 : Hid (Has5 ((w.alloc (.cells #[.int .i64 a, .int .i64 b, .int .i64 c, .int .i64 d] 23)).alloc (.cells #[.int .i64 0, .int .i64 0, .int .i64 0, .int .i64 0, .slice none 0 0] 26)) (w.heap.size + 1) ⟨0, 0, 0, 0⟩ none 0 0) := Has5.new (by simp) _ _ _ _ _ _ _ _
  have HB0 : Hid (Below w.heap.size w ((w.alloc (.cells #[.int .i64 a, .int .i64 b, .int .i64 c, .int .i64 d] 23)).alloc (.cells #[.int .i64 0, .int .i64 0, .int .i64 0, .int .i64 0, .slice none 0 0] 26))) := ((Below.refl _ _).alloc (Nat.le_refl _) _).alloc (by simp) _
  rcases he : empB ⟨a, b, c, d⟩ with _ | _
  · obtain ⟨s1, s2, s3⟩ := size_of ho he ha
    rw [orN_no he]
    obtain ⟨N, hN⟩ : ∃ N : Nat, N = wid ⟨a, b, c, d⟩ * hei ⟨a, b, c, d⟩ := ⟨_, rfl⟩
    rw [← hN] at s1 s2 s3
    have HN := hid s1
    have HE := hid he
    have HO := hid ho
    have hz := run_zeros N (by omega)
    obtain ⟨Z, hZ⟩ : ∃ Z, Z = zeroCs N := ⟨_, rfl⟩
    rw [← hZ] at hz
    have HZ := hid hZ
    have HL : Hid (none4 N = img ⟨a, b, c, d⟩ fun _ _ => noX) := img_none hN
    clear hZ s1 hN ho ha he
    go_enter Try.func34, Try.ntmps34
    go_wp2_with (go_at_call 19; with_reducible refine Calls.mono (Rc.refEmpty_any a b c d _) ?_; rintro e w1 ⟨rfl, hb1⟩; rw [HE.out]; have H41 := hid (H4.out.below hb1); have H51 := hid (H5.out.below hb1); obtain ⟨p0, p1, p2, p3, pf⟩ := H41.out; have HB1 := hid (HB0.out.trans (hb1.mono HB0.out.size)); clear hb1)
    have hS : S4c w.heap.size a b c d w1 := ⟨p0, p1, p2, p3⟩
    go_region_held3 (fun w' => w'.cell? ⟨w.heap.size, 0, none⟩ = some (.int .i64 a) ∧ w'.cell? ⟨w.heap.size, 1, none⟩ = some (.int .i64 b) ∧ w'.cell? ⟨w.heap.size, 2, none⟩ = some (.int .i64 c) ∧ w'.cell? ⟨w.heap.size, 3, none⟩ = some (.int .i64 d)) (repeat (first | with_reducible assumption | with_reducible refine s4c_drew ?_ | with_reducible refine s4c_alloc ?_ | with_reducible refine s4c_set5 ?_ (by omega) | with_reducible refine s4c_below ?_ ‹_›))
      ((go_at_call 21; with_reducible refine Calls.mono (Rc.refArea_any a b c d _ HO.out) ?_; rintro e w2 ⟨rfl, hb2⟩; rw [HN.out]; have H52 := hid ((H51.out.below (Below.refl _ _).drew).below hb2); have HB2 := hid (Rc.via HB1.out.drew hb2); have hsz := H52.out.lt; obtain ⟨v0, v1, v2, v3, v4, vf⟩ := H52.out; obtain ⟨j0, j1, j2, j3, j4, kf⟩ := H52.out.alloc (.cells Z 28)))
    have HF := hid (And.intro (has5_set H52.out a b c d (some ⟨w2.heap.size, 0, none⟩) N N) (below_set5 HB2.out (k := w.heap.size + 1) (by omega) (.int .i64 a) (.int .i64 b) (.int .i64 c) (.int .i64 d) (.slice (some ⟨w2.heap.size, 0, none⟩) N N)))
    have hsz3 : (((((w2.setCell ⟨w.heap.size + 1, 0, none⟩ (.int .i64 a)).setCell ⟨w.heap.size + 1, 1, none⟩ (.int .i64 b)).setCell ⟨w.heap.size + 1, 2, none⟩ (.int .i64 c)).setCell ⟨w.heap.size + 1, 3, none⟩ (.int .i64 d)).setCell ⟨w.heap.size + 1, 4, none⟩ (.slice (some ⟨w2.heap.size, 0, none⟩) N N)).heap.size = w2.heap.size := by simp [World.setCell]
    clear hz kf vf j0 j1 j2 j3 j4 v0 v1 v2 v3 v4 hS p0 p1 p2 p3 pf
    generalize (((((w2.setCell ⟨w.heap.size + 1, 0, none⟩ (.int .i64 a)).setCell ⟨w.heap.size + 1, 1, none⟩ (.int .i64 b)).setCell ⟨w.heap.size + 1, 2, none⟩ (.int .i64 c)).setCell ⟨w.heap.size + 1, 3, none⟩ (.int .i64 d)).setCell ⟨w.heap.size + 1, 4, none⟩ (.slice (some ⟨w2.heap.size, 0, none⟩) N N)) = w4 at HF hsz3 ⊢
    go_wp2
    have hB4 := HF.out.2
    have hN4 := ox_news (lo := w.heap.size) hB4.size (none4 N) (by rw [none4_len]; omega) 28
    rw [none4_len, show (flat (none4 N)).toArray = Z from HZ.out.symm, HL.out, hsz3] at hN4
    obtain ⟨s0, s1, s2, s3, s4, sf⟩ := (HF.out.1.alloc (.cells Z 28))
    refine bodyPost_ret (v := .agg #[.int .i64 a, .int .i64 b, .int .i64 c, .int .i64 d, .slice (some ⟨w2.heap.size, 0, none⟩) N N]) (by simp [results, Try.results34, go_sem, s0, s1, s2, s3, s4]) rfl ⟨⟨_, _, _, _, _, rfl, hN4⟩, hB4.alloc hB4.size _⟩
  · rw [orN_yes he]
    have HE := hid he
    clear ho ha he
    go_enter Try.func34, Try.ntmps34
    go_wp2_with (go_at_call 19; with_reducible refine Calls.mono (Rc.refEmpty_any a b c d _) ?_; rintro e w1 ⟨rfl, hb1⟩; rw [HE.out]; have H51 := hid (H5.out.below hb1); obtain ⟨p0, p1, p2, p3, p4, pf⟩ := H51.out; have HB1 := hid (HB0.out.trans (hb1.mono HB0.out.size)); clear hb1)
    obtain ⟨s0, s1, s2, s3, s4⟩ := set5 p0 p1 p2 p3 p4 (.int .i64 0) (.int .i64 0) (.int .i64 0) (.int .i64 0) (.slice none 0 0)
    refine bodyPost_ret (v := .agg #[.int .i64 0, .int .i64 0, .int .i64 0, .int .i64 0, .slice none 0 0]) (by simp [results, Try.results34, go_sem, s0, s1, s2, s3, s4]) rfl ⟨⟨_, _, _, 0, 0, rfl, oz_nil 4 _ _ _⟩, below_set5 HB1.out (by omega) _ _ _ _ _⟩

/-- where a pixel is, and whether it is there -/
def placeI (B : R) (x y : Int) : Int := if hasB B x y = true then ((posN B x y : Nat) : Int) else 0
theorem place_any (B : R) (ao : Option Addr) (n m : Nat) (x y : Int) (w : World) (ho : Ok B) (hnn : n = wid B * hei B) (hn : n ≤ 5000) (hx : -9000000000000 ≤ x ∧ x ≤ 9000000000000) (hy : -9000000000000 ≤ y ∧ y ≤ 9000000000000) :
    Calls Try.prog 39 #[.agg #[.int .i64 B.x0, .int .i64 B.y0, .int .i64 B.x1, .int .i64 B.y1, .slice ao n m], .int .i64 x, .int .i64 y] w fun e w' => e = .returned (.tuple #[.int .i64 (placeI B x y), .bool (hasB B x y)]) ∧ Below w.heap.size w w' := by
  obtain ⟨⟨a0, a1⟩, ⟨b0, b1⟩, ⟨c0, c1⟩, d0, d1⟩ := ho
  have hA := Has5.new (W := w) rfl B.x0 B.y0 B.x1 B.y1 ao n m 26
  have hB : Below w.heap.size w (w.alloc (.cells #[.int .i64 B.x0, .int .i64 B.y0, .int .i64 B.x1, .int .i64 B.y1, .slice ao n m] 26)) := (Below.refl _ _).alloc (Nat.le_refl _) _
  rcases hh : hasB B x y with _ | _
  · have HH := hid hh
    have E : placeI B x y = 0 := by unfold placeI; rw [hh]; rfl
    rw [E]
    clear hh E hnn
    go_enter Try.func39, Try.ntmps39
    go_wp2_with (go_at_call 45; with_reducible refine Calls.mono (Rc.has_any B.x0 B.y0 B.x1 B.y1 x y _) ?_; rintro e w1 ⟨rfl, hb1⟩; rw [show hasB ⟨B.x0, B.y0, B.x1, B.y1⟩ x y = false from HH.out]; replace hB := Rc.via hB hb1)
    simp [bodyPost, results, Try.results39, go_sem]
    exact hB
  · have E : placeI B x y = ((posN B x y : Nat) : Int) := by unfold placeI; rw [hh]; rfl
    rw [E]
    have hp := pos_of hh
    obtain ⟨x1, x2, x3, x4⟩ := of_decide_eq_true hh
    have hpi := pos_int (B := B) (x := x) (y := y) (by omega) (by omega) (by omega)
    have hs : ∃ s : Nat, (y - B.y0) * (B.x1 - B.x0) = (s : Int) := ⟨((y - B.y0) * (B.x1 - B.x0)).toNat, by have := Int.mul_nonneg (a := y - B.y0) (b := B.x1 - B.x0) (by omega) (by omega); omega⟩
    obtain ⟨s, hs⟩ := hs
    rw [hs] at hpi
    have HH := hid hh
    generalize posN B x y = q at *
    have hq : (s : Int) + x - B.x0 = (q : Int) := by omega
    have hqn : q < n := by omega
    have hsn : s ≤ 1000000 := by omega
    have z1 : (q : Int) < (n : Int) := by omega
    have z2 : (0 : Int) ≤ (q : Int) := by omega
    clear E hh hpi hp hnn
    go_enter Try.func39, Try.ntmps39
    go_wp2_with (go_at_call 45; with_reducible refine Calls.mono (Rc.has_any B.x0 B.y0 B.x1 B.y1 x y _) ?_; rintro e w1 ⟨rfl, hb1⟩; rw [show hasB ⟨B.x0, B.y0, B.x1, B.y1⟩ x y = true from HH.out]; replace hB := Rc.via hB hb1; replace hA := hA.below hb1; obtain ⟨p0, p1, p2, p3, p4, pf⟩ := id hA; clear hb1)
    go_quiet (fail)
    go_wp2
    simp [bodyPost, results, Try.results39, go_sem]
    exact below_drewN hB _
end Go.Proofs.Ytkgacjbnblfhoaa
