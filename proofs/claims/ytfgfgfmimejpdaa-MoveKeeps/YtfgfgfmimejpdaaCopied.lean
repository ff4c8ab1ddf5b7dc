/- A copy of a buffer, the document's new one, one pixel's place: contracts. -/
import Derived.Test.YtfgfgfmimejpdaaGrows
import Derived.Test.YtfgfgfmimejpdaaNewB
import Derived.BigQuiet
import Derived.Deep.QuietTactic
namespace Go.Proofs.Ytfgfgfmimejpdaa
open Num Go.RowKit
set_option linter.unusedVariables false
set_option linter.unusedSimpArgs false
attribute [local go_sem ↓] run_app
attribute [local go_sem] lenV_slice

/-- a rectangle's cells -/
abbrev S4c (k : Nat) (a b c d : Int) (w' : World) : Prop := w'.cell? ⟨k, 0, none⟩ = some (.int .i64 a) ∧ w'.cell? ⟨k, 1, none⟩ = some (.int .i64 b) ∧ w'.cell? ⟨k, 2, none⟩ = some (.int .i64 c) ∧ w'.cell? ⟨k, 3, none⟩ = some (.int .i64 d)
theorem s4c_block {k : Nat} {a b c d : Int} {w1 w2 : World} (h : S4c k a b c d w1) (e : w2.heap[k]? = w1.heap[k]?) : S4c k a b c d w2 := by
  have e1 := fun o => World.cell?_of_block (a := ⟨k, o, none⟩) e
  obtain ⟨c0, c1, c2, c3⟩ := h
  exact ⟨by rw [e1]; exact c0, by rw [e1]; exact c1, by rw [e1]; exact c2, by rw [e1]; exact c3⟩
theorem s4c_below {k : Nat} {a b c d : Int} {w1 w2 : World} (h : S4c k a b c d w1) (hb : Below w1.heap.size w1 w2) : S4c k a b c d w2 := s4c_block h (hb.block k (World.block_lt_of_cell? w1 ⟨k, 0, none⟩ h.1))
theorem s4c_drew {k : Nat} {a b c d : Int} {w1 : World} (h : S4c k a b c d w1) : S4c k a b c d w1.drew := s4c_below h (Below.refl _ _).drew
theorem s4c_alloc {k : Nat} {a b c d : Int} {w1 : World} {o : Obj} (h : S4c k a b c d w1) : S4c k a b c d (w1.alloc o) := s4c_below h ((Below.refl _ _).alloc (Nat.le_refl _) _)
theorem s4c_set5 {k j : Nat} {a b c d : Int} {w1 : World} {v0 v1 v2 v3 v4 : Value} (h : S4c k a b c d w1) (hj : k ≠ j) : S4c k a b c d (((((w1.setCell ⟨j, 0, none⟩ v0).setCell ⟨j, 1, none⟩ v1).setCell ⟨j, 2, none⟩ v2).setCell ⟨j, 3, none⟩ v3).setCell ⟨j, 4, none⟩ v4) :=
  s4c_block h ((but_set5 w1 j v0 v1 v2 v3 v4).block k (World.block_lt_of_cell? w1 ⟨k, 0, none⟩ h.1) hj)

set_option maxHeartbeats 2000000 in
theorem refNew_any (a b c d : Int) (w : World) (ho : Ok ⟨a, b, c, d⟩) (ha : area ⟨a, b, c, d⟩ ≤ 5000) :
    Calls Try.prog 49 #[.agg #[.int .i64 a, .int .i64 b, .int .i64 c, .int .i64 d]] w fun e w' => RetB w.heap.size w' e (orN ⟨a, b, c, d⟩) (img (orN ⟨a, b, c, d⟩) fun _ _ => noX) ∧ Below w.heap.size w w' := by
  have H4 : Hid (Rc.Has4 ((w.alloc (.cells #[.int .i64 a, .int .i64 b, .int .i64 c, .int .i64 d] 23)).alloc (.cells #[.int .i64 0, .int .i64 0, .int .i64 0, .int .i64 0, .slice none 0 0] 26)) w.heap.size (.int .i64 a) (.int .i64 b) (.int .i64 c) (.int .i64 d)) := (Rc.Has4.new rfl _ _ _ _ _).alloc _
  have H5 : Hid (Has5 ((w.alloc (.cells #[.int .i64 a, .int .i64 b, .int .i64 c, .int .i64 d] 23)).alloc (.cells #[.int .i64 0, .int .i64 0, .int .i64 0, .int .i64 0, .slice none 0 0] 26)) (w.heap.size + 1) ⟨0, 0, 0, 0⟩ none 0 0) := Has5.new (by simp) _ _ _ _ _ _ _ _
  have HB0 : Hid (Below w.heap.size w ((w.alloc (.cells #[.int .i64 a, .int .i64 b, .int .i64 c, .int .i64 d] 23)).alloc (.cells #[.int .i64 0, .int .i64 0, .int .i64 0, .int .i64 0, .slice none 0 0] 26))) := ((Below.refl _ _).alloc (Nat.le_refl _) _).alloc (by simp) _
  rcases he : empB ⟨a, b, c, d⟩ with _ | _
  · obtain ⟨s1, s2, s3⟩ := size_of ho he ha
    rw [orN_no he]
    obtain ⟨N, hN⟩ : ∃ N : Nat, N = wid ⟨a, b, c, d⟩ * hei ⟨a, b, c, d⟩ := ⟨_, rfl⟩
    rw [← hN] at s1 s2 s3
    have HN := hid s1
    have HE := hid he
    have HO := hid ho
    have hz := run_zeros N (by omega)
    obtain ⟨Z, hZ⟩ : ∃ Z, Z = zeroCs N := ⟨_, rfl⟩
    rw [← hZ] at hz
    have HZ := hid hZ
    have HL : Hid (none4 N = img ⟨a, b, c, d⟩ fun _ _ => noX) := img_none hN
    clear hZ s1 hN ho ha he
    go_enter Try.func49, Try.ntmps49
    go_wp2_with (go_at_call 15; with_reducible refine Calls.mono (Rc.refEmpty_any a b c d _) ?_; rintro e w1 ⟨rfl, hb1⟩; rw [HE.out]; have H41 := hid (H4.out.below hb1); have H51 := hid (H5.out.below hb1); obtain ⟨p0, p1, p2, p3, pf⟩ := H41.out; have HB1 := hid (HB0.out.trans (hb1.mono HB0.out.size)); clear hb1)
    have hS : S4c w.heap.size a b c d w1 := ⟨p0, p1, p2, p3⟩
    go_region_held3 (fun w' => w'.cell? ⟨w.heap.size, 0, none⟩ = some (.int .i64 a) ∧ w'.cell? ⟨w.heap.size, 1, none⟩ = some (.int .i64 b) ∧ w'.cell? ⟨w.heap.size, 2, none⟩ = some (.int .i64 c) ∧ w'.cell? ⟨w.heap.size, 3, none⟩ = some (.int .i64 d)) (repeat (first | with_reducible assumption | with_reducible refine s4c_drew ?_ | with_reducible refine s4c_alloc ?_ | with_reducible refine s4c_set5 ?_ (by omega) | with_reducible refine s4c_below ?_ ‹_›))
      ((go_at_call 52; with_reducible refine Calls.mono (Rc.refArea_any a b c d _ HO.out) ?_; rintro e w2 ⟨rfl, hb2⟩; rw [HN.out]; have H52 := hid ((H51.out.below (Below.refl _ _).drew).below hb2); have HB2 := hid (Rc.via HB1.out.drew hb2); have hsz := H52.out.lt; obtain ⟨v0, v1, v2, v3, v4, vf⟩ := H52.out; obtain ⟨j0, j1, j2, j3, j4, kf⟩ := H52.out.alloc (.cells Z 28)))
    have HF := hid (And.intro (has5_set H52.out a b c d (some ⟨w2.heap.size, 0, none⟩) N N) (below_set5 HB2.out (k := w.heap.size + 1) (by omega) (.int .i64 a) (.int .i64 b) (.int .i64 c) (.int .i64 d) (.slice (some ⟨w2.heap.size, 0, none⟩) N N)))
    have hsz3 : (((((w2.setCell ⟨w.heap.size + 1, 0, none⟩ (.int .i64 a)).setCell ⟨w.heap.size + 1, 1, none⟩ (.int .i64 b)).setCell ⟨w.heap.size + 1, 2, none⟩ (.int .i64 c)).setCell ⟨w.heap.size + 1, 3, none⟩ (.int .i64 d)).setCell ⟨w.heap.size + 1, 4, none⟩ (.slice (some ⟨w2.heap.size, 0, none⟩) N N)).heap.size = w2.heap.size := by simp [World.setCell]
    clear hz kf vf j0 j1 j2 j3 j4 v0 v1 v2 v3 v4 hS p0 p1 p2 p3 pf
    generalize (((((w2.setCell ⟨w.heap.size + 1, 0, none⟩ (.int .i64 a)).setCell ⟨w.heap.size + 1, 1, none⟩ (.int .i64 b)).setCell ⟨w.heap.size + 1, 2, none⟩ (.int .i64 c)).setCell ⟨w.heap.size + 1, 3, none⟩ (.int .i64 d)).setCell ⟨w.heap.size + 1, 4, none⟩ (.slice (some ⟨w2.heap.size, 0, none⟩) N N)) = w4 at HF hsz3 ⊢
    go_wp2
    have hB4 := HF.out.2
    have hN4 := ox_news (lo := w.heap.size) hB4.size (none4 N) (by rw [none4_len]; omega) 28
    rw [none4_len, show (flat (none4 N)).toArray = Z from HZ.out.symm, HL.out, hsz3] at hN4
    obtain ⟨s0, s1, s2, s3, s4, sf⟩ := (HF.out.1.alloc (.cells Z 28))
    refine bodyPost_ret (v := .agg #[.int .i64 a, .int .i64 b, .int .i64 c, .int .i64 d, .slice (some ⟨w2.heap.size, 0, none⟩) N N]) (by simp [results, Try.results49, go_sem, s0, s1, s2, s3, s4]) rfl ⟨⟨_, _, _, _, _, rfl, hN4⟩, hB4.alloc hB4.size _⟩
  · rw [orN_yes he]
    have HE := hid he
    clear ho ha he
    go_enter Try.func49, Try.ntmps49
    go_wp2_with (go_at_call 15; with_reducible refine Calls.mono (Rc.refEmpty_any a b c d _) ?_; rintro e w1 ⟨rfl, hb1⟩; rw [HE.out]; have H51 := hid (H5.out.below hb1); obtain ⟨p0, p1, p2, p3, p4, pf⟩ := H51.out; have HB1 := hid (HB0.out.trans (hb1.mono HB0.out.size)); clear hb1)
    obtain ⟨s0, s1, s2, s3, s4⟩ := set5 p0 p1 p2 p3 p4 (.int .i64 0) (.int .i64 0) (.int .i64 0) (.int .i64 0) (.slice none 0 0)
    refine bodyPost_ret (v := .agg #[.int .i64 0, .int .i64 0, .int .i64 0, .int .i64 0, .slice none 0 0]) (by simp [results, Try.results49, go_sem, s0, s1, s2, s3, s4]) rfl ⟨⟨_, _, _, 0, 0, rfl, oz_nil 4 _ _ _⟩, below_set5 HB1.out (by omega) _ _ _ _ _⟩

/-- where a pixel is, and whether it is there -/
def placeI (B : R) (x y : Int) : Int := if hasB B x y = true then ((posN B x y : Nat) : Int) else 0
end Go.Proofs.Ytfgfgfmimejpdaa
