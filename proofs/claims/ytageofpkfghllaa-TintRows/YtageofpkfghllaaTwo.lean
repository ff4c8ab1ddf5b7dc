/- Two lists of one's own, and a third that is put behind both. -/
import Derived.Test.YtageofpkfghllaaSets
namespace Go.Proofs.Ytageofpkfghllaa
open Num Go.RowKit
set_option linter.unusedVariables false
set_option linter.unusedSimpArgs false

/-- full alpha, whatever the pixel is -/
def fullL : List Int := [0, 0, 0, 0, 256]
abbrev apw (P : Program) (W : World) (aA : Option Addr) (n aC : Nat) (kf : Nat) : World := apW P #[22, 22] 22 W (.slice aA n aC) (.slice (some ⟨kf, 0, none⟩) 5 5)
abbrev apa (P : Program) (W : World) (aA : Option Addr) (n aC : Nat) (kf : Nat) : Option Addr := apA P #[22, 22] 22 W (.slice aA n aC) (.slice (some ⟨kf, 0, none⟩) 5 5)
abbrev apc (P : Program) (W : World) (aA : Option Addr) (n aC : Nat) (kf : Nat) : Nat := apC P #[22, 22] 22 W (.slice aA n aC) (.slice (some ⟨kf, 0, none⟩) 5 5)

/-- a list of fifteen of one's own, and the five numbers -/
structure One (lo : Nat) (aA : Option Addr) (aC ba offa : Nat) (la : List Int) (kf : Nat) (W : World) : Prop where
  a : Oi lo W aA 15 aC ba offa la
  f : Vi W (some ⟨kf, 0, none⟩) 5 5 kf 0 fullL
  le : lo ≤ W.heap.size
structure Two (lo : Nat) (aA : Option Addr) (aC ba offa : Nat) (la : List Int) (bA : Option Addr) (bC bb offb : Nat) (lb : List Int) (kf : Nat) (W : World) : Prop where
  a : One lo aA aC ba offa la kf W
  b : One lo bA bC bb offb lb kf W
  ab : bb ≠ ba
  fa : kf ≠ ba
theorem One.below {lo : Nat} {aA : Option Addr} {aC ba offa : Nat} {la : List Int} {kf : Nat} {W W' : World} (h : One lo aA aC ba offa la kf W) (hb : Below W.heap.size W W') : One lo aA aC ba offa la kf W' :=
  ⟨h.a.below hb, h.f.below hb, Nat.le_trans h.le hb.size⟩
theorem Two.below {lo : Nat} {aA : Option Addr} {aC ba offa : Nat} {la : List Int} {bA : Option Addr} {bC bb offb : Nat} {lb : List Int} {kf : Nat} {W W' : World} (h : Two lo aA aC ba offa la bA bC bb offb lb kf W) (hb : Below W.heap.size W W') : Two lo aA aC ba offa la bA bC bb offb lb kf W' :=
  ⟨h.a.below hb, h.b.below hb, h.ab, h.fa⟩
/-- the five are put behind -/
structure Put (lo : Nat) (aA : Option Addr) (aC : Nat) (la : List Int) (kf : Nat) (W : World) (bx offx : Nat) : Prop where
  fine : Fine Try.prog #[22, 22] 22 W (.slice aA 15 aC) (.slice (some ⟨kf, 0, none⟩) 5 5) 20
  low : Below lo W (apw Try.prog W aA 15 aC kf)
  own : Oi lo (apw Try.prog W aA 15 aC kf) (apa Try.prog W aA 15 aC kf) 20 (apc Try.prog W aA 15 aC kf) bx offx (la ++ fullL)
theorem put_own {lo : Nat} {aA : Option Addr} {aC : Nat} {la A : List Int} {kf : Nat} {W : World} {bx offx : Nat} (hA : A = la ++ fullL) (h : Put lo aA aC la kf W bx offx) : Oi lo (apw Try.prog W aA 15 aC kf) (apa Try.prog W aA 15 aC kf) 20 (apc Try.prog W aA 15 aC kf) bx offx A := by rw [hA]; exact h.own
theorem one_put {lo : Nat} {aA : Option Addr} {aC ba offa : Nat} {la : List Int} {kf : Nat} {W : World} (h : One lo aA aC ba offa la kf W) : ∃ bx offx, Put lo aA aC la kf W bx offx := by
  obtain ⟨bx, offx, hA⟩ := app_ints h.a h.le h.f (by omega)
  exact ⟨bx, offx, hA.fine, hA.below, oi_app hA.own⟩
theorem two_put {lo : Nat} {aA : Option Addr} {aC ba offa : Nat} {la : List Int} {bA : Option Addr} {bC bb offb : Nat} {lb : List Int} {kf : Nat} {W : World} (h : Two lo aA aC ba offa la bA bC bb offb lb kf W) :
    (∃ bx offx, Put lo aA aC la kf W bx offx) ∧ One lo bA bC bb offb lb kf (apw Try.prog W aA 15 aC kf) := by
  obtain ⟨bx, offx, hA⟩ := app_ints h.a.a h.a.le h.a.f (by omega)
  refine ⟨⟨bx, offx, hA.fine, hA.below, oi_app hA.own⟩, ⟨h.b.a.block hA.below.size fun hc => hA.other bb (h.b.a.new hc).2 (fun _ => h.ab), ?_, Nat.le_trans h.b.le hA.below.size⟩⟩
  refine ⟨h.b.f.len, h.b.f.le, h.b.f.max, h.b.f.addr, h.b.f.lies.block (hA.other kf (h.b.f.lies.lt (by decide)) (fun _ => h.fa))⟩
/-- as the law makes them -/
theorem two_mk {W5 W6 W7 : World} {aA : Option Addr} {aC ba offa : Nat} {la : List Int} {bA : Option Addr} {bC bb offb : Nat} {lb : List Int} (ha : Oi W5.heap.size W6 aA 15 aC ba offa la) (hb : Oi W6.heap.size W7 bA 15 bC bb offb lb) (h56 : Below W5.heap.size W5 W6) (h67 : Below W6.heap.size W6 W7) :
    Two W5.heap.size aA aC ba offa la bA bC bb offb lb W7.heap.size (W7.alloc (.cells #[.int .i64 0, .int .i64 0, .int .i64 0, .int .i64 0, .int .i64 256] 3)) := by
  have na := ha.new (by have := ha.v.le; omega)
  have nb := hb.new (by have := hb.v.le; omega)
  have s5 := h56.size
  have s6 := h67.size
  have hf := (oi_news (lo := W5.heap.size) (w := W7) (by omega) fullL (by decide) 3).v
  have hal : Below W7.heap.size W7 (W7.alloc (.cells #[.int .i64 0, .int .i64 0, .int .i64 0, .int .i64 0, .int .i64 256] 3)) := (Below.refl _ _).alloc (Nat.le_refl _) _
  have hle : W5.heap.size ≤ (W7.alloc (.cells #[.int .i64 0, .int .i64 0, .int .i64 0, .int .i64 0, .int .i64 256] 3)).heap.size := by simp; omega
  exact ⟨⟨(ha.below h67).below hal, hf, hle⟩, ⟨(hb.mono (by omega)).below hal, hf, hle⟩, by omega, by omega⟩
/-- the pixel stays, whatever is written from block B on -/
theorem s1_low {w : World} {p : Nat} {v0 v1 v2 v3 : Value} {w1 w2 : World} {B : Nat} (hB : p < B ∧ w.heap.size ≤ B) (h : S1 w p v0 v1 v2 v3 w1) (hb : Below B w1 w2) : S1 w p v0 v1 v2 v3 w2 := by
  obtain ⟨⟨c0, c1, c2, c3⟩, hK⟩ := h
  have e : ∀ o, w2.cell? ⟨p, o, none⟩ = w1.cell? ⟨p, o, none⟩ := fun o => hb.cell (p := ⟨p, o, none⟩) hB.1
  exact ⟨⟨by rw [e]; exact c0, by rw [e]; exact c1, by rw [e]; exact c2, by rw [e]; exact c3⟩, Below.trans hK (hb.mono hB.2)⟩

/-- the numbers of lists that are laid together -/
theorem nth_app {a b : List Int} {i : Nat} (h : i < a.length) : nth (a ++ b) i = nth a i := by unfold nth; simp [List.getD_eq_getElem?_getD, List.getElem?_append_left h]
theorem nth_take {a : List Int} {i n : Nat} (h : i < n) : nth (a.take n) i = nth a i := by unfold nth; simp [List.getD_eq_getElem?_getD, List.getElem?_take, h]
theorem nth_same {l : List Int} {i : Nat} (h : i < l.length) (v : Int) : nth (l.set i v) i = v := by unfold nth; simp [List.getD_eq_getElem?_getD, h]
theorem nth_ne {l : List Int} {i j : Nat} (h : j ≠ i) (v : Int) : nth (l.set j v) i = nth l i := by unfold nth; simp [List.getD_eq_getElem?_getD, List.getElem?_set_ne h]
theorem right_set {l : List Int} (h : rightM l = true) (i : Nat) {v : Int} (hv : -32768 ≤ v ∧ v ≤ 32767) : rightM (l.set i v) = true := by
  unfold rightM at h ⊢
  rw [Bool.and_eq_true, List.all_eq_true] at h ⊢
  refine ⟨by simpa using h.1, fun x hx => ?_⟩
  rcases List.mem_or_eq_of_mem_set hx with h1 | rfl
  · exact h.2 x h1
  · exact ok_yes hv
theorem right_put {l : List Int} (h : rightM l = true) : rightM (l.take 15 ++ fullL) = true := by
  have hl := right_len h
  unfold rightM at h ⊢
  rw [Bool.and_eq_true, List.all_eq_true] at h ⊢
  refine ⟨by simp [hl, fullL], fun x hx => ?_⟩
  rcases List.mem_append.1 hx with h1 | h1
  · exact h.2 x (List.mem_of_mem_take h1)
  · exact List.all_eq_true.1 (by decide : fullL.all okI = true) x h1
theorem len_put {l : List Int} (h : l.length = 20) : (l.take 15).length = 15 := by rw [List.length_take]; omega
/-- with full alpha a row's colour is what the row makes -/
theorem nth_full {l : List Int} (h : l.length = 20) (i : Nat) : nth (l.take 15 ++ fullL) (15 + i) = nth fullL i := by
  unfold nth
  simp only [List.getD_eq_getElem?_getD]
  rw [List.getElem?_append_right (by rw [len_put h]; omega), len_put h, Nat.add_sub_cancel_left]
theorem alpha_full {l : List Int} (h : l.length = 20) (r g s a : Int) : plnI (l.take 15 ++ fullL) 15 r g s a = 255 := by
  unfold plnI lineI
  rw [show (15 : Nat) = 15 + 0 from rfl, nth_full h 0, Nat.add_assoc, nth_full h (0 + 1), Nat.add_assoc, nth_full h (0 + 2), Nat.add_assoc, nth_full h (0 + 3), Nat.add_assoc, nth_full h (0 + 4)]
  show cutI ((256 * 255 + 128 + 0 * divI r a + 0 * divI g a + 0 * divI s a + 0 * a) / 256) = 255
  simp only [Int.zero_mul, Int.add_zero]
  decide
/-- two matrices that have a row in common -/
theorem col_same {l l' : List Int} {j : Nat} (h : ∀ i, i < 5 → nth l (j + i) = nth l' (j + i)) (ha : ∀ r g s a, plnI l 15 r g s a = plnI l' 15 r g s a) (r g s a : Int) : colI l j r g s a = colI l' j r g s a := by
  unfold colI
  rw [ha]
  congr 1
  unfold plnI lineI
  have h0 := h 0 (by omega)
  rw [Nat.add_zero] at h0
  rw [h0, h 1 (by omega), h 2 (by omega), h 3 (by omega), h 4 (by omega)]
end Go.Proofs.Ytageofpkfghllaa
