/- Filling a buffer: the contract. -/
import Derived.Test.YtfgfgfmimejpdaaRows2
import Derived.Test.YtfgfgfmimejpdaaBoth
import Derived.Test.YtfgfgfmimejpdaaPuts
import Derived.Test.YtfgfgfmimejpdaaRightB
import Derived.Test.YtfgfgfmimejpdaaAtB
import Derived.Deep.LoopGhost
import Derived.Deep.Light
namespace Go.Proofs.Ytfgfgfmimejpdaa
open Num Go.RowKit
set_option linter.unusedVariables false
set_option linter.unusedSimpArgs false
attribute [local go_sem ↓] run_cp

theorem usable_yes (k : Nat) (B : R) (ao : Option Addr) (n m : Nat) (w : World) (hn : n ≤ 9223372036854775807) (h : bufB B n = true) (h5 : Has5 w k B ao n m) :
    Calls Try.prog 64 #[.pointer (some ⟨k, 0, none⟩)] w fun e w' => e = .returned (.bool true) ∧ Below w.heap.size w w' := by
  have HH := hid h
  clear h
  obtain ⟨p0, p1, p2, p3, p4, pf⟩ := h5
  go_enter Try.func64, Try.ntmps64
  go_wp2_with (go_at_call 65; with_reducible refine Calls.mono (rasterRight_yes B.x0 B.y0 B.x1 B.y1 ao n m _ hn HH.out) ?_; rintro e w1 ⟨rfl, hb1⟩)
  go_ret
  exact ⟨rfl, hb1⟩

theorem fill_none {B r : R} {p : X} {f : Int → Int → X} (he : empB (meet B r) = true) : img B (fillG r p f) = img B f := by
  apply img_ext
  intro x y h
  unfold fillG
  rw [if_neg]
  intro h2
  have h1 := of_decide_eq_true h
  have h3 := of_decide_eq_true h2
  have : hasB (meet B r) x y = true := by
    unfold meet
    rw [has_orN]
    refine decide_eq_true ?_
    unfold mx mn
    dsimp only
    omega
  rw [has_emp he] at this
  cases this

/-- a buffer that is being filled -/
structure Fs (lo : Nat) (W : World) (k g off n m kp ka : Nat) (B A : R) (p : X) (f : Int → Int → X) (w : World) : Prop where
  b : Has5 w k B (some ⟨g, off, none⟩) n m
  a : Rc.Has4 w ka (.int .i64 A.x0) (.int .i64 A.y0) (.int .i64 A.x1) (.int .i64 A.y1)
  p : Rc.Has4 w kp (.int .u8 p.c0) (.int .u8 p.c1) (.int .u8 p.c2) (.int .u8 p.c3)
  o : Ox lo w (some ⟨g, off, none⟩) n m g off (img B f)
  but : But g W w
  kg : k ≠ g
  ag : ka ≠ g
  pg : kp ≠ g
theorem Fs.below {lo : Nat} {W : World} {k g off n m kp ka : Nat} {B A : R} {p : X} {f : Int → Int → X} {w w' : World} (h : Fs lo W k g off n m kp ka B A p f w) (hb : Below w.heap.size w w') : Fs lo W k g off n m kp ka B A p f w' :=
  ⟨h.b.below hb, h.a.below hb, h.p.below hb, h.o.below hb, h.but.to hb, h.kg, h.ag, h.pg⟩
theorem Fs.put {lo : Nat} {W : World} {k g off n m kp ka : Nat} {B A : R} {p : X} {f : Int → Int → X} {w : World} (h : Fs lo W k g off n m kp ka B A p f w) {a b y : Int} (hi : In B a b y) (hh : Int → X) :
    Fs lo W k g off n m kp ka B A p (putG f y a b hh) (w.setCells g (off + posN B a y * 4) (flat (line hh a b))) := by
  have hb := but_cells g (off + posN B a y * 4) (flat (line hh a b)) w
  exact ⟨h.b.but hb h.kg, has4_but h.a hb h.ag, has4_but h.p hb h.pg, ox_img_put h.o hi hh, h.but.trans hb, h.kg, h.ag, h.pg⟩
theorem Fs.pix {lo : Nat} {W : World} {k g off n m kp ka : Nat} {B A : R} {p : X} {f : Int → Int → X} {w : World} (h : Fs lo W k g off n m kp ka B A p f w) {q i : Nat} {x y : Int} (hq : posN B x y = q + i) (hi : In B x (x + 1) y) :
    Fs lo W k g off n m kp ka B A p (putG f y x (x + 1) (fun _ => p)) ((((w.setCell ⟨g, off + q * 4 + i * 4, none⟩ (.int .u8 p.c0)).setCell ⟨g, off + q * 4 + i * 4 + 1, none⟩ (.int .u8 p.c1)).setCell ⟨g, off + q * 4 + i * 4 + 2, none⟩ (.int .u8 p.c2)).setCell ⟨g, off + q * 4 + i * 4 + 3, none⟩ (.int .u8 p.c3)) := by
  have := h.put hi (fun _ => p)
  rw [line_one, hq, show off + (q + i) * 4 = off + q * 4 + i * 4 by omega] at this
  exact this
/-- one pixel of the first row -/
theorem fill_step (A : R) (p : X) (f : Int → Int → X) (i : Nat) : putG (fillG ⟨A.x0, A.y0, A.x0 + (i : Int), A.y0 + 1⟩ p f) A.y0 (A.x0 + (i : Int)) (A.x0 + (i : Int) + 1) (fun _ => p) = fillG ⟨A.x0, A.y0, A.x0 + ((i + 1 : Nat) : Int), A.y0 + 1⟩ p f := by
  funext x y
  unfold putG fillG hasB
  simp only [decide_eq_true_eq]
  by_cases h1 : y = A.y0 ∧ A.x0 + (i : Int) ≤ x ∧ x < A.x0 + (i : Int) + 1
  · rw [if_pos h1, if_pos (by omega)]
  · rw [if_neg h1]
    by_cases h2 : A.x0 ≤ x ∧ x < A.x0 + (i : Int) ∧ A.y0 ≤ y ∧ y < A.y0 + 1
    · rw [if_pos h2, if_pos (by omega)]
    · rw [if_neg h2, if_neg (by omega)]
/-- .. a row more -/
theorem fill_row (A : R) (p : X) (f : Int → Int → X) {y : Int} (hy : A.y0 ≤ y) : putG (fillG ⟨A.x0, A.y0, A.x1, y⟩ p f) y A.x0 A.x1 (fun _ => p) = fillG ⟨A.x0, A.y0, A.x1, y + 1⟩ p f := by
  funext x v
  unfold putG fillG hasB
  simp only [decide_eq_true_eq]
  by_cases h1 : v = y ∧ A.x0 ≤ x ∧ x < A.x1
  · rw [if_pos h1, if_pos (by omega)]
  · rw [if_neg h1]
    by_cases h2 : A.x0 ≤ x ∧ x < A.x1 ∧ A.y0 ≤ v ∧ v < y
    · rw [if_pos h2, if_pos (by omega)]
    · rw [if_neg h2, if_neg (by omega)]
theorem fill_start (A : R) (p : X) (f : Int → Int → X) : fillG ⟨A.x0, A.y0, A.x0 + ((0 : Nat) : Int), A.y0 + 1⟩ p f = f := by
  funext x v
  unfold fillG hasB
  rw [if_neg (by simp only [decide_eq_true_eq]; omega)]
theorem meet_in {B r : R} (he : empB (meet B r) = false) : B.x0 ≤ (meet B r).x0 ∧ (meet B r).x1 ≤ B.x1 ∧ B.y0 ≤ (meet B r).y0 ∧ (meet B r).y1 ≤ B.y1 ∧ (meet B r).x0 < (meet B r).x1 ∧ (meet B r).y0 < (meet B r).y1 := by
  unfold meet at he ⊢
  rcases e : empB ⟨mx B.x0 r.x0, mx B.y0 r.y0, mn B.x1 r.x1, mn B.y1 r.y1⟩ with _ | _
  · rw [orN_no e]
    have := of_some e
    dsimp only at this ⊢
    unfold mx mn at *
    omega
  · rw [orN_yes e] at he
    cases he
theorem has_meet (B r : R) (x y : Int) : hasB (meet B r) x y = (hasB B x y && hasB r x y) := by
  unfold meet
  rw [has_orN]
  unfold hasB
  rw [Bool.eq_iff_iff]
  simp only [Bool.and_eq_true, decide_eq_true_eq]
  unfold mx mn
  omega
theorem fill_meet {B r : R} {p : X} {f : Int → Int → X} : img B (fillG (meet B r) p f) = img B (fillG r p f) := by
  apply img_ext
  intro x y h
  unfold fillG
  rw [has_meet, h]
  simp

theorem s9_put {w : World} {k ka : Nat} {B A : R} {v : Value} {w1 : World} (h : S9 w k ka B A v w1) : S9 w1 k ka B A v w1 := ⟨h.1, Below.refl _ _⟩

theorem Fs.s9c {lo : Nat} {W : World} {k g off n m kp ka : Nat} {B A : R} {p : X} {f : Int → Int → X} {w : World} (h : Fs lo W k g off n m kp ka B A p f w) : S9c k ka B A (.slice (some ⟨g, off, none⟩) n m) w := ⟨h.b.c0, h.b.c1, h.b.c2, h.b.c3, h.b.c4, h.a.c0, h.a.c1, h.a.c2, h.a.c3⟩
theorem Fs.cp {lo : Nat} {W : World} {k g off n m kp ka : Nat} {B A : R} {p : X} {f : Int → Int → X} {w : World} {y : Int} (h : Fs lo W k g off n m kp ka B A p (fillG ⟨A.x0, A.y0, A.x1, y⟩ p f) w) (hI : In B A.x0 A.x1 A.y0) (hy : A.y0 < y) (hIy : In B A.x0 A.x1 y) {q K : Nat} (hq : q = posN B A.x0 A.y0) (hK : K = (A.x1 - A.x0).toNat) (c c' : Nat) (ty : TypeId) :
    CFine Try.prog #[24, 24] ty w (.slice (some ⟨g, off + posN B A.x0 y * 4, none⟩) K c) (.slice (some ⟨g, off + q * 4, none⟩) K c') ∧ Fs lo W k g off n m kp ka B A p (fillG ⟨A.x0, A.y0, A.x1, y + 1⟩ p f) (cpW Try.prog #[24, 24] ty w (.slice (some ⟨g, off + posN B A.x0 y * 4, none⟩) K c) (.slice (some ⟨g, off + q * 4, none⟩) K c')) := by
  subst hq
  subst hK
  have h1 := vx_line h.o.v hI
  rw [line_ext (h' := fun _ => p) (by
    intro x x0 x1
    unfold fillG hasB
    rw [if_pos (by simp only [decide_eq_true_eq]; omega)])] at h1
  obtain ⟨h2, h3⟩ := cp_row (ty := ty) (c := c) (c' := c') (line_len (fun _ => p) A.x0 A.x1) h1 (ox_room h.o hIy)
  rw [h3, ← fill_row A p f (by omega)]
  exact ⟨h2, h.put hIy _⟩

set_option maxRecDepth 100000 in
set_option maxHeartbeats 2000000 in
theorem fill_empty (lo k g off n m : Nat) (ao : Option Addr) (B : R) (f : Int → Int → X) (a b c d : Int) (p : X) (w : World) (hn : n ≤ 5000) (h : bufB B n = true) (h5 : Has5 w k B ao n m) (hO : Ox lo w ao n m g off (img B f)) (M : R) (hM : M = meet B ⟨a, b, c, d⟩) (he : empB M = true) :
    Calls Try.prog 50 #[.pointer (some ⟨k, 0, none⟩), .agg #[.int .i64 a, .int .i64 b, .int .i64 c, .int .i64 d], pxV p] w fun e w' => e = .returned (.tuple #[]) ∧ Has5 w' k B ao n m ∧ Ox lo w' ao n m g off (img B (fillG ⟨a, b, c, d⟩ p f)) ∧ But g w w' := by
    have hn2 : n ≤ 9223372036854775807 := by omega
    have HB : Hid (Below w.heap.size w ((w.alloc (.cells #[.int .i64 a, .int .i64 b, .int .i64 c, .int .i64 d] 23)).alloc (.cells #[.int .u8 p.c0, .int .u8 p.c1, .int .u8 p.c2, .int .u8 p.c3] 28))) := ((Below.refl _ _).alloc (Nat.le_refl _) _).alloc (by simp) _
    have HR : Hid (Rc.Has4 ((w.alloc (.cells #[.int .i64 a, .int .i64 b, .int .i64 c, .int .i64 d] 23)).alloc (.cells #[.int .u8 p.c0, .int .u8 p.c1, .int .u8 p.c2, .int .u8 p.c3] 28)) w.heap.size (.int .i64 a) (.int .i64 b) (.int .i64 c) (.int .i64 d)) := (Rc.Has4.new rfl _ _ _ _ _).alloc _
    have HP : Hid (Rc.Has4 ((w.alloc (.cells #[.int .i64 a, .int .i64 b, .int .i64 c, .int .i64 d] 23)).alloc (.cells #[.int .u8 p.c0, .int .u8 p.c1, .int .u8 p.c2, .int .u8 p.c3] 28)) (w.heap.size + 1) (.int .u8 p.c0) (.int .u8 p.c1) (.int .u8 p.c2) (.int .u8 p.c3)) := Rc.Has4.new (by simp) _ _ _ _ _
    have HX := hid (And.intro h5 (And.intro hO (And.intro h trivial)))
    have HM : Hid (M = meet ⟨B.x0, B.y0, B.x1, B.y1⟩ ⟨a, b, c, d⟩) := hM
    have HE := hid he
    clear he hM h h5 hO
    go_enter Try.func50, Try.ntmps50
    go_wp2_with (go_at_call 64; with_reducible refine Calls.mono (usable_yes k B ao n m _ hn2 HX.out.2.2.1 (HX.out.1.below HB.out)) ?_; rintro e w1 ⟨rfl, hb1⟩; have HB1 := hid (Rc.via HB.out hb1); have HR1 := hid (HR.out.below hb1); have HP1 := hid (HP.out.below hb1); clear hb1)
    have H51 := hid (HX.out.1.below HB1.out)
    have hl1 : w.heap.size < w1.heap.size := World.block_lt_of_cell? w1 ⟨w.heap.size, 0, none⟩ HR1.out.c0
    have hl2 : k < w1.heap.size := H51.out.lt
    obtain ⟨s0, s1, s2, s3, sf⟩ := HR1.out
    obtain ⟨t0, t1, t2, t3, t4, tf⟩ := H51.out
    have hS : S8 w1 k w.heap.size B.x0 B.y0 B.x1 B.y1 a b c d w1 := ⟨⟨t0, t1, t2, t3, s0, s1, s2, s3⟩, Below.refl _ _⟩
    go_region_held3 (fun w' => (w'.cell? ⟨k, 0, none⟩ = some (.int .i64 B.x0) ∧ w'.cell? ⟨k, 1, none⟩ = some (.int .i64 B.y0) ∧ w'.cell? ⟨k, 2, none⟩ = some (.int .i64 B.x1) ∧ w'.cell? ⟨k, 3, none⟩ = some (.int .i64 B.y1) ∧ w'.cell? ⟨w.heap.size, 0, none⟩ = some (.int .i64 a) ∧ w'.cell? ⟨w.heap.size, 1, none⟩ = some (.int .i64 b) ∧ w'.cell? ⟨w.heap.size, 2, none⟩ = some (.int .i64 c) ∧ w'.cell? ⟨w.heap.size, 3, none⟩ = some (.int .i64 d)) ∧ Below w1.heap.size w1 w') (repeat (first | with_reducible assumption | with_reducible refine s8_drew ?_ | with_reducible refine s8_alloc ?_ | with_reducible refine s8_set ?_ (by omega) (by omega) (by omega) | with_reducible refine s8_below ?_ ‹_›))
      ((first
      | (go_at_call 42; with_reducible refine Calls.mono (Rc.meet_any B.x0 B.y0 B.x1 B.y1 a b c d _) ?_; rintro e w2 ⟨rfl, hb2⟩; rw [← HM.out]; have HA2 := hid (((Rc.Has4.new (W := w1) (k := w1.heap.size) rfl (.int .i64 0) (.int .i64 0) (.int .i64 0) (.int .i64 0) 23).below (Below.refl _ _).drew).below hb2); obtain ⟨p0, p1, p2, p3, pf⟩ := HA2.out)
      | (go_at_call 42; with_reducible refine Calls.mono (Rc.meet_any B.x0 B.y0 B.x1 B.y1 a b c d _) ?_; rintro e w2 ⟨rfl, hb2⟩; rw [← HM.out]; have hz2 : w1.heap.size ≤ w2.heap.size := drew_le hb2)))
    all_goals
      rename_i hHeld
      clear hS s0 s1 s2 s3 sf t0 t1 t2 t3 t4 tf
    · obtain ⟨ka, hka, HF⟩ : ∃ ka, ka = w2.heap.size ∧ Hid (Rc.Has4 (w2.alloc (.cells #[.int .i64 M.x0, .int .i64 M.y0, .int .i64 M.x1, .int .i64 M.y1] 23)) ka (.int .i64 M.x0) (.int .i64 M.y0) (.int .i64 M.x1) (.int .i64 M.y1) ∧ Below w1.heap.size w1 (w2.alloc (.cells #[.int .i64 M.x0, .int .i64 M.y0, .int .i64 M.x1, .int .i64 M.y1] 23)) ∧ w1.heap.size ≤ ka) := ⟨_, rfl, Rc.Has4.new rfl _ _ _ _ _, hHeld.2, hz2⟩
      rw [← hka]
      clear hka hHeld
      generalize (w2.alloc (.cells #[.int .i64 M.x0, .int .i64 M.y0, .int .i64 M.x1, .int .i64 M.y1] 23)) = w3 at HF ⊢
      clear hb2 hz2 w2
      obtain ⟨q0, q1, q2, q3, qf⟩ := HF.out.1
      go_wp2_with (go_at_call 37; with_reducible refine Calls.mono (Rc.empty_any M.x0 M.y0 M.x1 M.y1 _) ?_; rintro e w4 ⟨rfl, hb4⟩; rw [show empB ⟨M.x0, M.y0, M.x1, M.y1⟩ = true from HE.out])
      have hB4 := Rc.via (HB1.out.trans (HF.out.2.1.mono (Nat.le_of_lt hl1))) hb4
      refine bodyPost_ret (v := .tuple #[]) (by simp [results, Try.results50, go_sem]) rfl ⟨rfl, HX.out.1.below hB4, ?_, But.of hB4⟩
      rw [fill_none (by rw [← HE.out]; exact congrArg empB HM.out.symm)]
      exact HX.out.2.1.below hB4
    · obtain ⟨ka, hka, HF⟩ : ∃ ka, ka = w1.heap.size ∧ Hid (Rc.Has4 ((((w2.setCell ⟨w1.heap.size, 0, none⟩ (.int .i64 M.x0)).setCell ⟨w1.heap.size, 1, none⟩ (.int .i64 M.y0)).setCell ⟨w1.heap.size, 2, none⟩ (.int .i64 M.x1)).setCell ⟨w1.heap.size, 3, none⟩ (.int .i64 M.y1)) ka (.int .i64 M.x0) (.int .i64 M.y0) (.int .i64 M.x1) (.int .i64 M.y1) ∧ Below w1.heap.size w1 ((((w2.setCell ⟨w1.heap.size, 0, none⟩ (.int .i64 M.x0)).setCell ⟨w1.heap.size, 1, none⟩ (.int .i64 M.y0)).setCell ⟨w1.heap.size, 2, none⟩ (.int .i64 M.x1)).setCell ⟨w1.heap.size, 3, none⟩ (.int .i64 M.y1)) ∧ w1.heap.size ≤ ka) := ⟨_, rfl, has4_set HA2.out _ _ _ _, hHeld.2, Nat.le_refl _⟩
      generalize ((((w2.setCell ⟨w1.heap.size, 0, none⟩ (.int .i64 M.x0)).setCell ⟨w1.heap.size, 1, none⟩ (.int .i64 M.y0)).setCell ⟨w1.heap.size, 2, none⟩ (.int .i64 M.x1)).setCell ⟨w1.heap.size, 3, none⟩ (.int .i64 M.y1)) = w3 at HF ⊢
      rw [← hka]
      clear hka hHeld HA2 p0 p1 p2 p3 pf hb2 w2
      obtain ⟨q0, q1, q2, q3, qf⟩ := HF.out.1
      go_wp2_with (go_at_call 37; with_reducible refine Calls.mono (Rc.empty_any M.x0 M.y0 M.x1 M.y1 _) ?_; rintro e w4 ⟨rfl, hb4⟩; rw [show empB ⟨M.x0, M.y0, M.x1, M.y1⟩ = true from HE.out])
      have hB4 := Rc.via (HB1.out.trans (HF.out.2.1.mono (Nat.le_of_lt hl1))) hb4
      refine bodyPost_ret (v := .tuple #[]) (by simp [results, Try.results50, go_sem]) rfl ⟨rfl, HX.out.1.below hB4, ?_, But.of hB4⟩
      rw [fill_none (by rw [← HE.out]; exact congrArg empB HM.out.symm)]
      exact HX.out.2.1.below hB4
set_option maxRecDepth 100000 in
set_option maxHeartbeats 2000000 in
theorem fill_some (lo k g off n m : Nat) (B : R) (f : Int → Int → X) (a b c d : Int) (p : X) (w : World) (hn : n ≤ 5000) (h : bufB B n = true) (h5 : Has5 w k B (some ⟨g, off, none⟩) n m) (hO : Ox lo w (some ⟨g, off, none⟩) n m g off (img B f)) (M : R) (hM : M = meet B ⟨a, b, c, d⟩) (he : empB M = false) (hkg : k ≠ g) :
    Calls Try.prog 50 #[.pointer (some ⟨k, 0, none⟩), .agg #[.int .i64 a, .int .i64 b, .int .i64 c, .int .i64 d], pxV p] w fun e w' => e = .returned (.tuple #[]) ∧ Has5 w' k B (some ⟨g, off, none⟩) n m ∧ Ox lo w' (some ⟨g, off, none⟩) n m g off (img B (fillG ⟨a, b, c, d⟩ p f)) ∧ But g w w' := by
    have hn2 : n ≤ 9223372036854775807 := by omega
    have HB : Hid (Below w.heap.size w ((w.alloc (.cells #[.int .i64 a, .int .i64 b, .int .i64 c, .int .i64 d] 23)).alloc (.cells #[.int .u8 p.c0, .int .u8 p.c1, .int .u8 p.c2, .int .u8 p.c3] 28))) := ((Below.refl _ _).alloc (Nat.le_refl _) _).alloc (by simp) _
    have HR : Hid (Rc.Has4 ((w.alloc (.cells #[.int .i64 a, .int .i64 b, .int .i64 c, .int .i64 d] 23)).alloc (.cells #[.int .u8 p.c0, .int .u8 p.c1, .int .u8 p.c2, .int .u8 p.c3] 28)) w.heap.size (.int .i64 a) (.int .i64 b) (.int .i64 c) (.int .i64 d)) := (Rc.Has4.new rfl _ _ _ _ _).alloc _
    have HP : Hid (Rc.Has4 ((w.alloc (.cells #[.int .i64 a, .int .i64 b, .int .i64 c, .int .i64 d] 23)).alloc (.cells #[.int .u8 p.c0, .int .u8 p.c1, .int .u8 p.c2, .int .u8 p.c3] 28)) (w.heap.size + 1) (.int .u8 p.c0) (.int .u8 p.c1) (.int .u8 p.c2) (.int .u8 p.c3)) := Rc.Has4.new (by simp) _ _ _ _ _
    have HX := hid (And.intro h5 (And.intro hO (And.intro h trivial)))
    have HM : Hid (M = meet ⟨B.x0, B.y0, B.x1, B.y1⟩ ⟨a, b, c, d⟩) := hM
    have HE := hid he
    have hgl : g < w.heap.size := (hO.new (by
      have h1 := vx_len hO.v
      have h2 := hO.v.le
      rcases buf_cases h with ⟨e1, e2, -⟩ | ⟨e1, e2, e3⟩
      · have := hM ▸ he
        have := meet_in this
        rw [e2] at this
        unfold nil at this
        dsimp only at this
        omega
      · have := area_0 B
        rw [e1] at this
        have := of_decide_eq_false this
        have := area_bd B
        omega)).2
    have HN : Hid (Ok B ∧ n = wid B * hei B ∧ n ≤ m ∧ m ≤ maxLen ∧ k ≠ g) := by
      refine ⟨?_, by rw [← vx_len hO.v, img_len], hO.v.le, hO.v.max, hkg⟩
      rcases buf_cases h with ⟨e1, e2, -⟩ | ⟨e1, e2, e3⟩
      · rw [e2]; exact ok_nil
      · exact ok_of_right e2
    have hI := meet_in (B := B) (r := ⟨a, b, c, d⟩) (by rw [← hM]; exact he)
    rw [← hM] at hI
    have HI : Hid (In B M.x0 M.x1 M.y0 ∧ M.x0 < M.x1 ∧ (B.x0 ≤ M.x0 ∧ M.x1 ≤ B.x1 ∧ B.y0 ≤ M.y0 ∧ M.y1 ≤ B.y1 ∧ M.x0 < M.x1 ∧ M.y0 < M.y1)) := ⟨⟨by omega, by omega, by omega, by omega, by omega⟩, by omega, hI⟩
    obtain ⟨q, hq⟩ : ∃ q, q = posN B M.x0 M.y0 := ⟨_, rfl⟩
    obtain ⟨K, hK⟩ : ∃ K, K = (M.x1 - M.x0).toNat := ⟨_, rfl⟩
    have HQ := hid (And.intro hq hK)
    clear hq hK hI
    clear he hM h h5 hO hkg
    go_enter Try.func50, Try.ntmps50
    go_wp2_with (go_at_call 64; with_reducible refine Calls.mono (usable_yes k B (some ⟨g, off, none⟩) n m _ hn2 HX.out.2.2.1 (HX.out.1.below HB.out)) ?_; rintro e w1 ⟨rfl, hb1⟩; have HB1 := hid (Rc.via HB.out hb1); have HR1 := hid (HR.out.below hb1); have HP1 := hid (HP.out.below hb1); clear hb1)
    have H51 := hid (HX.out.1.below HB1.out)
    have hl1 : w.heap.size < w1.heap.size := World.block_lt_of_cell? w1 ⟨w.heap.size, 0, none⟩ HR1.out.c0
    have hl2 : k < w1.heap.size := H51.out.lt
    obtain ⟨s0, s1, s2, s3, sf⟩ := HR1.out
    obtain ⟨t0, t1, t2, t3, t4, tf⟩ := H51.out
    have hS : S8 w1 k w.heap.size B.x0 B.y0 B.x1 B.y1 a b c d w1 := ⟨⟨t0, t1, t2, t3, s0, s1, s2, s3⟩, Below.refl _ _⟩
    go_region_held3 (fun w' => (w'.cell? ⟨k, 0, none⟩ = some (.int .i64 B.x0) ∧ w'.cell? ⟨k, 1, none⟩ = some (.int .i64 B.y0) ∧ w'.cell? ⟨k, 2, none⟩ = some (.int .i64 B.x1) ∧ w'.cell? ⟨k, 3, none⟩ = some (.int .i64 B.y1) ∧ w'.cell? ⟨w.heap.size, 0, none⟩ = some (.int .i64 a) ∧ w'.cell? ⟨w.heap.size, 1, none⟩ = some (.int .i64 b) ∧ w'.cell? ⟨w.heap.size, 2, none⟩ = some (.int .i64 c) ∧ w'.cell? ⟨w.heap.size, 3, none⟩ = some (.int .i64 d)) ∧ Below w1.heap.size w1 w') (repeat (first | with_reducible assumption | with_reducible refine s8_drew ?_ | with_reducible refine s8_alloc ?_ | with_reducible refine s8_set ?_ (by omega) (by omega) (by omega) | with_reducible refine s8_below ?_ ‹_›))
      ((first
      | (go_at_call 42; with_reducible refine Calls.mono (Rc.meet_any B.x0 B.y0 B.x1 B.y1 a b c d _) ?_; rintro e w2 ⟨rfl, hb2⟩; rw [← HM.out]; have HA2 := hid (((Rc.Has4.new (W := w1) (k := w1.heap.size) rfl (.int .i64 0) (.int .i64 0) (.int .i64 0) (.int .i64 0) 23).below (Below.refl _ _).drew).below hb2); obtain ⟨p0, p1, p2, p3, pf⟩ := HA2.out)
      | (go_at_call 42; with_reducible refine Calls.mono (Rc.meet_any B.x0 B.y0 B.x1 B.y1 a b c d _) ?_; rintro e w2 ⟨rfl, hb2⟩; rw [← HM.out]; have hz2 : w1.heap.size ≤ w2.heap.size := drew_le hb2)))
    all_goals
      rename_i hHeld
      clear hS s0 s1 s2 s3 sf t0 t1 t2 t3 t4 tf
    · obtain ⟨ka, hka, HF⟩ : ∃ ka, ka = w2.heap.size ∧ Hid (Rc.Has4 (w2.alloc (.cells #[.int .i64 M.x0, .int .i64 M.y0, .int .i64 M.x1, .int .i64 M.y1] 23)) ka (.int .i64 M.x0) (.int .i64 M.y0) (.int .i64 M.x1) (.int .i64 M.y1) ∧ Below w1.heap.size w1 (w2.alloc (.cells #[.int .i64 M.x0, .int .i64 M.y0, .int .i64 M.x1, .int .i64 M.y1] 23)) ∧ w1.heap.size ≤ ka) := ⟨_, rfl, Rc.Has4.new rfl _ _ _ _ _, hHeld.2, hz2⟩
      rw [← hka]
      clear hka hHeld
      generalize (w2.alloc (.cells #[.int .i64 M.x0, .int .i64 M.y0, .int .i64 M.x1, .int .i64 M.y1] 23)) = w3 at HF ⊢
      clear hb2 hz2 w2
      obtain ⟨q0, q1, q2, q3, qf⟩ := HF.out.1
      have H53 := hid (H51.out.below HF.out.2.1)
      have HP3 := hid (HP1.out.below HF.out.2.1)
      have HB3 := hid (HB1.out.trans (HF.out.2.1.mono (Nat.le_of_lt hl1)))
      go_wp2_with (go_at_call 37; with_reducible refine Calls.mono (Rc.empty_any M.x0 M.y0 M.x1 M.y1 _) ?_; rintro e w4 ⟨rfl, hb4⟩; rw [show empB ⟨M.x0, M.y0, M.x1, M.y1⟩ = false from HE.out]; have HF4 := hid (And.intro (HF.out.1.below hb4) (And.intro (H53.out.below hb4) (And.intro (HP3.out.below hb4) (Rc.via HB3.out hb4)))); clear hb4)
      clear q0 q1 q2 q3 qf
      obtain ⟨q0, q1, q2, q3, qf⟩ := HF4.out.1
      obtain ⟨r0, r1, r2, r3, r4, rf⟩ := HF4.out.2.1
      have hS4 : S9 w4 k ka B M (.slice (some ⟨g, off, none⟩) n m) w4 := ⟨⟨r0, r1, r2, r3, r4, q0, q1, q2, q3⟩, Below.refl _ _⟩
      go_region_held3 (fun w' => (w'.cell? ⟨k, 0, none⟩ = some (.int .i64 B.x0) ∧ w'.cell? ⟨k, 1, none⟩ = some (.int .i64 B.y0) ∧ w'.cell? ⟨k, 2, none⟩ = some (.int .i64 B.x1) ∧ w'.cell? ⟨k, 3, none⟩ = some (.int .i64 B.y1) ∧ w'.cell? ⟨k, 4, none⟩ = some (.slice (some ⟨g, off, none⟩) n m) ∧ w'.cell? ⟨ka, 0, none⟩ = some (.int .i64 M.x0) ∧ w'.cell? ⟨ka, 1, none⟩ = some (.int .i64 M.y0) ∧ w'.cell? ⟨ka, 2, none⟩ = some (.int .i64 M.x1) ∧ w'.cell? ⟨ka, 3, none⟩ = some (.int .i64 M.y1)) ∧ Below w4.heap.size w4 w') (repeat (first | with_reducible assumption | with_reducible refine s9_drew ?_ | with_reducible refine s9_below ?_ ‹_›))
        ((go_at_call 67; with_reducible refine Calls.mono (rrow_of B g off n m M.x0 M.x1 M.y0 _ HN.out.1 HN.out.2.1 hn HN.out.2.2.1 HN.out.2.2.2.1 HI.out.1 HI.out.2.1) ?_; rintro e w5 ⟨rfl, hb5⟩; rw [← HQ.out.1, ← HQ.out.2]))
      rename_i hH5
      have HS5 : Hid (Fs lo w k g off n m (w.heap.size + 1) ka B M p f w5) := by
        have hb : Below w4.heap.size w4 w5 := hH5.2
        have hka : w1.heap.size ≤ ka := HF.out.2.2
        exact ⟨HF4.out.2.1.below hb, HF4.out.1.below hb, HF4.out.2.2.1.below hb, (HX.out.2.1.below HF4.out.2.2.2).below hb, But.of (HF4.out.2.2.2.trans (hb.mono HF4.out.2.2.2.size)), HN.out.2.2.2.2, by omega, by omega⟩
      clear hH5 hS4 r0 r1 r2 r3 r4 rf q0 q1 q2 q3 qf hb5
      have hK2 : K ≤ 5000 := by
        have := HQ.out.2
        have := pos_end ⟨HI.out.1.y0, HI.out.1.y1⟩ HI.out.1.x0 HI.out.1.le HI.out.1.x1
        have := HN.out.2.1
        omega
      go_wp2
      go_loopg [33] K (fun gh v33 wr => ∃ i : Nat, i ≤ K ∧ gh = K - i ∧ v33 = .int .i64 i ∧ Fs lo w k g off n m (w.heap.size + 1) ka B M p (fillG ⟨M.x0, M.y0, M.x0 + (i : Int), M.y0 + 1⟩ p f) wr)
      case atStart => exact ⟨0, Nat.zero_le _, rfl, rfl, by rw [fill_start]; exact HS5.out⟩
      case round =>
        clear HS5
        obtain ⟨i, hi, rfl, rfl, hF⟩ := hrel
        have HFR := hid hF
        by_cases hlt : i < K
        · have hlz : (i : Int) < (K : Int) := by omega
          obtain ⟨g0, g1, g2, g3, gf⟩ := hF.p
          have hqi : q + i < n := by
            have h1 := HQ.out
            have h2 := pos_end ⟨HI.out.1.y0, HI.out.1.y1⟩ HI.out.1.x0 HI.out.1.le HI.out.1.x1
            have h3 := HN.out.2.1
            omega
          obtain ⟨u0, u1, u2, u3, e0, e1, e2, e3, z0, z1, z2, z3⟩ := ox_four hF.o hqi
          clear hF
          go_wp2
          go_roundg (K - (i + 1))
          case measure => omega
          case rel =>
            refine ⟨i + 1, hlt, rfl, by simp, ?_⟩
            rw [← fill_step]
            have h1 := HI.out
            have h2 := HQ.out
            exact HFR.out.pix (by rw [h2.1]; unfold posN; omega) ⟨by omega, by omega, by omega, by omega, by omega⟩
        · obtain rfl : K = i := by omega
          have HFR2 : Hid (Fs lo w k g off n m (w.heap.size + 1) ka B M p (fillG ⟨M.x0, M.y0, M.x1, M.y0 + 1⟩ p f) wr) := by
            have := HFR.out
            rw [show M.x0 + (K : Int) = M.x1 by have := HQ.out.2; have := HI.out.2.1; omega] at this
            exact this
          clear HFR
          obtain ⟨q0, q1, q2, q3, qf⟩ := hF.a
          clear hF
          have hM0 : -4398046511104 ≤ M.y0 := by have := HI.out.2.2; have := HN.out.1.2.1; omega
          have hM1 : M.y0 < M.y1 := HI.out.2.2.2.2.2.2.2
          have hM2 : M.y1 ≤ 4398046511104 := by have := HI.out.2.2; have := HN.out.1.2.2.2; omega
          go_wp2
          go_loopg [9] (M.y1 - (M.y0 + 1)).toNat (fun gh v9 wr => ∃ y : Int, M.y0 < y ∧ y ≤ M.y1 ∧ gh = (M.y1 - y).toNat ∧ v9 = .int .i64 y ∧ Fs lo w k g off n m (w.heap.size + 1) ka B M p (fillG ⟨M.x0, M.y0, M.x1, y⟩ p f) wr)
          case atStart => exact ⟨M.y0 + 1, by omega, by omega, rfl, rfl, HFR2.out⟩
          case round =>
            clear HFR2 q0 q1 q2 q3 qf
            obtain ⟨y, hy0, hy1, rfl, rfl, hF⟩ := hrel
            have HFR := hid hF
            obtain ⟨q0, q1, q2, q3, qf⟩ := hF.a
            by_cases hlt : y < M.y1
            · have HY : Hid (In B M.x0 M.x1 y) := by
                have h1 := HI.out.2.2
                exact ⟨by omega, by omega, by omega, by omega, by omega⟩
              obtain ⟨r0, r1, r2, r3, r4, rf⟩ := hF.b
              have hS6 : S9c k ka B M (.slice (some ⟨g, off, none⟩) n m) wr := hF.s9c
              clear hF
              go_wp2
              go_region_held3 (fun w' => w'.cell? ⟨k, 0, none⟩ = some (.int .i64 B.x0) ∧ w'.cell? ⟨k, 1, none⟩ = some (.int .i64 B.y0) ∧ w'.cell? ⟨k, 2, none⟩ = some (.int .i64 B.x1) ∧ w'.cell? ⟨k, 3, none⟩ = some (.int .i64 B.y1) ∧ w'.cell? ⟨k, 4, none⟩ = some (.slice (some ⟨g, off, none⟩) n m) ∧ w'.cell? ⟨ka, 0, none⟩ = some (.int .i64 M.x0) ∧ w'.cell? ⟨ka, 1, none⟩ = some (.int .i64 M.y0) ∧ w'.cell? ⟨ka, 2, none⟩ = some (.int .i64 M.x1) ∧ w'.cell? ⟨ka, 3, none⟩ = some (.int .i64 M.y1)) (repeat (first | with_reducible assumption | with_reducible exact Fs.s9c (Hid.out HC).2 | with_reducible refine s9c_drew ?_ | with_reducible refine s9c_below ?_ ‹_›))
                ((go_at_call 67; with_reducible refine Calls.mono (rrow_of B g off n m M.x0 M.x1 y _ HN.out.1 HN.out.2.1 hn HN.out.2.2.1 HN.out.2.2.2.1 HY.out HI.out.2.1) ?_; rintro e w6 ⟨rfl, hb6⟩; rw [← HQ.out.2]; have HC := hid (((HFR.out.below (Below.refl _ _).drew).below hb6).cp HI.out.1 hy0 HY.out HQ.out.1 HQ.out.2 (m - posN B M.x0 y) (m - q) 3); have hC := HC.out.1))
              go_wp2
              go_roundg (M.y1 - (y + 1)).toNat
              case measure => omega
              case rel => exact ⟨y + 1, by omega, by omega, rfl, rfl, HC.out.2⟩
            · obtain rfl : M.y1 = y := by omega
              clear hF
              go_wp2
              refine bodyPost_end (v := .tuple #[]) (by simp [results, Try.results50, go_sem]) rfl ⟨rfl, HFR.out.b, ?_, HFR.out.but⟩
              rw [← fill_meet, show meet B ⟨a, b, c, d⟩ = M from HM.out.symm]
              exact HFR.out.o
    · obtain ⟨ka, hka, HF⟩ : ∃ ka, ka = w1.heap.size ∧ Hid (Rc.Has4 ((((w2.setCell ⟨w1.heap.size, 0, none⟩ (.int .i64 M.x0)).setCell ⟨w1.heap.size, 1, none⟩ (.int .i64 M.y0)).setCell ⟨w1.heap.size, 2, none⟩ (.int .i64 M.x1)).setCell ⟨w1.heap.size, 3, none⟩ (.int .i64 M.y1)) ka (.int .i64 M.x0) (.int .i64 M.y0) (.int .i64 M.x1) (.int .i64 M.y1) ∧ Below w1.heap.size w1 ((((w2.setCell ⟨w1.heap.size, 0, none⟩ (.int .i64 M.x0)).setCell ⟨w1.heap.size, 1, none⟩ (.int .i64 M.y0)).setCell ⟨w1.heap.size, 2, none⟩ (.int .i64 M.x1)).setCell ⟨w1.heap.size, 3, none⟩ (.int .i64 M.y1)) ∧ w1.heap.size ≤ ka) := ⟨_, rfl, has4_set HA2.out _ _ _ _, hHeld.2, Nat.le_refl _⟩
      generalize ((((w2.setCell ⟨w1.heap.size, 0, none⟩ (.int .i64 M.x0)).setCell ⟨w1.heap.size, 1, none⟩ (.int .i64 M.y0)).setCell ⟨w1.heap.size, 2, none⟩ (.int .i64 M.x1)).setCell ⟨w1.heap.size, 3, none⟩ (.int .i64 M.y1)) = w3 at HF ⊢
      rw [← hka]
      clear hka hHeld HA2 p0 p1 p2 p3 pf hb2 w2
      obtain ⟨q0, q1, q2, q3, qf⟩ := HF.out.1
      have H53 := hid (H51.out.below HF.out.2.1)
      have HP3 := hid (HP1.out.below HF.out.2.1)
      have HB3 := hid (HB1.out.trans (HF.out.2.1.mono (Nat.le_of_lt hl1)))
      go_wp2_with (go_at_call 37; with_reducible refine Calls.mono (Rc.empty_any M.x0 M.y0 M.x1 M.y1 _) ?_; rintro e w4 ⟨rfl, hb4⟩; rw [show empB ⟨M.x0, M.y0, M.x1, M.y1⟩ = false from HE.out]; have HF4 := hid (And.intro (HF.out.1.below hb4) (And.intro (H53.out.below hb4) (And.intro (HP3.out.below hb4) (Rc.via HB3.out hb4)))); clear hb4)
      clear q0 q1 q2 q3 qf
      obtain ⟨q0, q1, q2, q3, qf⟩ := HF4.out.1
      obtain ⟨r0, r1, r2, r3, r4, rf⟩ := HF4.out.2.1
      have hS4 : S9 w4 k ka B M (.slice (some ⟨g, off, none⟩) n m) w4 := ⟨⟨r0, r1, r2, r3, r4, q0, q1, q2, q3⟩, Below.refl _ _⟩
      go_region_held3 (fun w' => (w'.cell? ⟨k, 0, none⟩ = some (.int .i64 B.x0) ∧ w'.cell? ⟨k, 1, none⟩ = some (.int .i64 B.y0) ∧ w'.cell? ⟨k, 2, none⟩ = some (.int .i64 B.x1) ∧ w'.cell? ⟨k, 3, none⟩ = some (.int .i64 B.y1) ∧ w'.cell? ⟨k, 4, none⟩ = some (.slice (some ⟨g, off, none⟩) n m) ∧ w'.cell? ⟨ka, 0, none⟩ = some (.int .i64 M.x0) ∧ w'.cell? ⟨ka, 1, none⟩ = some (.int .i64 M.y0) ∧ w'.cell? ⟨ka, 2, none⟩ = some (.int .i64 M.x1) ∧ w'.cell? ⟨ka, 3, none⟩ = some (.int .i64 M.y1)) ∧ Below w4.heap.size w4 w') (repeat (first | with_reducible assumption | with_reducible refine s9_drew ?_ | with_reducible refine s9_below ?_ ‹_›))
        ((go_at_call 67; with_reducible refine Calls.mono (rrow_of B g off n m M.x0 M.x1 M.y0 _ HN.out.1 HN.out.2.1 hn HN.out.2.2.1 HN.out.2.2.2.1 HI.out.1 HI.out.2.1) ?_; rintro e w5 ⟨rfl, hb5⟩; rw [← HQ.out.1, ← HQ.out.2]))
      rename_i hH5
      have HS5 : Hid (Fs lo w k g off n m (w.heap.size + 1) ka B M p f w5) := by
        have hb : Below w4.heap.size w4 w5 := hH5.2
        have hka : w1.heap.size ≤ ka := HF.out.2.2
        exact ⟨HF4.out.2.1.below hb, HF4.out.1.below hb, HF4.out.2.2.1.below hb, (HX.out.2.1.below HF4.out.2.2.2).below hb, But.of (HF4.out.2.2.2.trans (hb.mono HF4.out.2.2.2.size)), HN.out.2.2.2.2, by omega, by omega⟩
      clear hH5 hS4 r0 r1 r2 r3 r4 rf q0 q1 q2 q3 qf hb5
      have hK2 : K ≤ 5000 := by
        have := HQ.out.2
        have := pos_end ⟨HI.out.1.y0, HI.out.1.y1⟩ HI.out.1.x0 HI.out.1.le HI.out.1.x1
        have := HN.out.2.1
        omega
      go_wp2
      go_loopg [33] K (fun gh v33 wr => ∃ i : Nat, i ≤ K ∧ gh = K - i ∧ v33 = .int .i64 i ∧ Fs lo w k g off n m (w.heap.size + 1) ka B M p (fillG ⟨M.x0, M.y0, M.x0 + (i : Int), M.y0 + 1⟩ p f) wr)
      case atStart => exact ⟨0, Nat.zero_le _, rfl, rfl, by rw [fill_start]; exact HS5.out⟩
      case round =>
        clear HS5
        obtain ⟨i, hi, rfl, rfl, hF⟩ := hrel
        have HFR := hid hF
        by_cases hlt : i < K
        · have hlz : (i : Int) < (K : Int) := by omega
          obtain ⟨g0, g1, g2, g3, gf⟩ := hF.p
          have hqi : q + i < n := by
            have h1 := HQ.out
            have h2 := pos_end ⟨HI.out.1.y0, HI.out.1.y1⟩ HI.out.1.x0 HI.out.1.le HI.out.1.x1
            have h3 := HN.out.2.1
            omega
          obtain ⟨u0, u1, u2, u3, e0, e1, e2, e3, z0, z1, z2, z3⟩ := ox_four hF.o hqi
          clear hF
          go_wp2
          go_roundg (K - (i + 1))
          case measure => omega
          case rel =>
            refine ⟨i + 1, hlt, rfl, by simp, ?_⟩
            rw [← fill_step]
            have h1 := HI.out
            have h2 := HQ.out
            exact HFR.out.pix (by rw [h2.1]; unfold posN; omega) ⟨by omega, by omega, by omega, by omega, by omega⟩
        · obtain rfl : K = i := by omega
          have HFR2 : Hid (Fs lo w k g off n m (w.heap.size + 1) ka B M p (fillG ⟨M.x0, M.y0, M.x1, M.y0 + 1⟩ p f) wr) := by
            have := HFR.out
            rw [show M.x0 + (K : Int) = M.x1 by have := HQ.out.2; have := HI.out.2.1; omega] at this
            exact this
          clear HFR
          obtain ⟨q0, q1, q2, q3, qf⟩ := hF.a
          clear hF
          have hM0 : -4398046511104 ≤ M.y0 := by have := HI.out.2.2; have := HN.out.1.2.1; omega
          have hM1 : M.y0 < M.y1 := HI.out.2.2.2.2.2.2.2
          have hM2 : M.y1 ≤ 4398046511104 := by have := HI.out.2.2; have := HN.out.1.2.2.2; omega
          go_wp2
          go_loopg [9] (M.y1 - (M.y0 + 1)).toNat (fun gh v9 wr => ∃ y : Int, M.y0 < y ∧ y ≤ M.y1 ∧ gh = (M.y1 - y).toNat ∧ v9 = .int .i64 y ∧ Fs lo w k g off n m (w.heap.size + 1) ka B M p (fillG ⟨M.x0, M.y0, M.x1, y⟩ p f) wr)
          case atStart => exact ⟨M.y0 + 1, by omega, by omega, rfl, rfl, HFR2.out⟩
          case round =>
            clear HFR2 q0 q1 q2 q3 qf
            obtain ⟨y, hy0, hy1, rfl, rfl, hF⟩ := hrel
            have HFR := hid hF
            obtain ⟨q0, q1, q2, q3, qf⟩ := hF.a
            by_cases hlt : y < M.y1
            · have HY : Hid (In B M.x0 M.x1 y) := by
                have h1 := HI.out.2.2
                exact ⟨by omega, by omega, by omega, by omega, by omega⟩
              obtain ⟨r0, r1, r2, r3, r4, rf⟩ := hF.b
              have hS6 : S9c k ka B M (.slice (some ⟨g, off, none⟩) n m) wr := hF.s9c
              clear hF
              go_wp2
              go_region_held3 (fun w' => w'.cell? ⟨k, 0, none⟩ = some (.int .i64 B.x0) ∧ w'.cell? ⟨k, 1, none⟩ = some (.int .i64 B.y0) ∧ w'.cell? ⟨k, 2, none⟩ = some (.int .i64 B.x1) ∧ w'.cell? ⟨k, 3, none⟩ = some (.int .i64 B.y1) ∧ w'.cell? ⟨k, 4, none⟩ = some (.slice (some ⟨g, off, none⟩) n m) ∧ w'.cell? ⟨ka, 0, none⟩ = some (.int .i64 M.x0) ∧ w'.cell? ⟨ka, 1, none⟩ = some (.int .i64 M.y0) ∧ w'.cell? ⟨ka, 2, none⟩ = some (.int .i64 M.x1) ∧ w'.cell? ⟨ka, 3, none⟩ = some (.int .i64 M.y1)) (repeat (first | with_reducible assumption | with_reducible exact Fs.s9c (Hid.out HC).2 | with_reducible refine s9c_drew ?_ | with_reducible refine s9c_below ?_ ‹_›))
                ((go_at_call 67; with_reducible refine Calls.mono (rrow_of B g off n m M.x0 M.x1 y _ HN.out.1 HN.out.2.1 hn HN.out.2.2.1 HN.out.2.2.2.1 HY.out HI.out.2.1) ?_; rintro e w6 ⟨rfl, hb6⟩; rw [← HQ.out.2]; have HC := hid (((HFR.out.below (Below.refl _ _).drew).below hb6).cp HI.out.1 hy0 HY.out HQ.out.1 HQ.out.2 (m - posN B M.x0 y) (m - q) 3); have hC := HC.out.1))
              go_wp2
              go_roundg (M.y1 - (y + 1)).toNat
              case measure => omega
              case rel => exact ⟨y + 1, by omega, by omega, rfl, rfl, HC.out.2⟩
            · obtain rfl : M.y1 = y := by omega
              clear hF
              go_wp2
              refine bodyPost_end (v := .tuple #[]) (by simp [results, Try.results50, go_sem]) rfl ⟨rfl, HFR.out.b, ?_, HFR.out.but⟩
              rw [← fill_meet, show meet B ⟨a, b, c, d⟩ = M from HM.out.symm]
              exact HFR.out.o
/-- a buffer is filled -/
theorem fill_any (lo k g off n m : Nat) (ao : Option Addr) (B : R) (f : Int → Int → X) (a b c d : Int) (p : X) (w : World) (hn : n ≤ 5000) (h : bufB B n = true) (h5 : Has5 w k B ao n m) (hO : Ox lo w ao n m g off (img B f)) (hkg : 0 < m → k ≠ g) :
    Calls Try.prog 50 #[.pointer (some ⟨k, 0, none⟩), .agg #[.int .i64 a, .int .i64 b, .int .i64 c, .int .i64 d], pxV p] w fun e w' => e = .returned (.tuple #[]) ∧ Has5 w' k B ao n m ∧ Ox lo w' ao n m g off (img B (fillG ⟨a, b, c, d⟩ p f)) ∧ But g w w' := by
  rcases he : empB (meet B ⟨a, b, c, d⟩) with _ | _
  · have hm : 0 < m := by
      have h1 := vx_len hO.v
      have h2 := hO.v.le
      have h3 := meet_in he
      rw [img_len] at h1
      have h4 : 0 < wid B * hei B := Nat.mul_pos (by unfold wid; omega) (by unfold hei; omega)
      omega
    obtain rfl := hO.v.addr hm
    exact fill_some lo k g off n m B f a b c d p w hn h h5 hO _ rfl he (hkg hm)
  · exact fill_empty lo k g off n m ao B f a b c d p w hn h h5 hO _ rfl he
end Go.Proofs.Ytfgfgfmimejpdaa
