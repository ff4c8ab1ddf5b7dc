/- One pixel put into a buffer, and read: contracts. -/
import Derived.Test.YtkgacjbnblfhoaaCopied
import Derived.Test.YtkgacjbnblfhoaaFillB
namespace Go.Proofs.Ytkgacjbnblfhoaa
open Num Go.RowKit
set_option linter.unusedVariables false
set_option linter.unusedSimpArgs false

theorem ox_at4 {lo : Nat} {w : World} {ao : Option Addr} {n m g off : Nat} {l : List X} (h : Ox lo w ao n m g off l) {q : Nat} (hi : q < n) : ∃ u0 u1 u2 u3, w.cell? ⟨g, off + q * 4, none⟩ = some u0 ∧ w.cell? ⟨g, off + q * 4 + 1, none⟩ = some u1 ∧ w.cell? ⟨g, off + q * 4 + 2, none⟩ = some u2 ∧ w.cell? ⟨g, off + q * 4 + 3, none⟩ = some u3 ∧
    w.frozen? ⟨g, off + q * 4, none⟩ = false ∧ w.frozen? ⟨g, off + q * 4 + 1, none⟩ = false ∧ w.frozen? ⟨g, off + q * 4 + 2, none⟩ = false ∧ w.frozen? ⟨g, off + q * 4 + 3, none⟩ = false := by
  have := ox_four (q := 0) (i := q) h (by omega)
  rw [Nat.zero_mul, Nat.add_zero] at this
  exact this
/-- one pixel more -/
def onePx (B : R) (x y : Int) (p : X) (f : Int → Int → X) : Int → Int → X := if hasB B x y = true then putG f y x (x + 1) (fun _ => p) else f

set_option maxRecDepth 100000 in
set_option maxHeartbeats 1000000 in
theorem at_any (B : R) (ao : Option Addr) (n m g off : Nat) (f : Int → Int → X) (x y : Int) (w : World) (ho : Ok B) (hn : n ≤ 5000) (hx : -9000000000000 ≤ x ∧ x ≤ 9000000000000) (hy : -9000000000000 ≤ y ∧ y ≤ 9000000000000) (h : Vx w ao n m g off (img B f)) :
    Calls Try.prog 24 #[.agg #[.int .i64 B.x0, .int .i64 B.y0, .int .i64 B.x1, .int .i64 B.y1, .slice ao n m], .int .i64 x, .int .i64 y] w fun e w' => e = .returned (pxV (atX B f x y)) ∧ Below w.heap.size w w' := by
  have hnn : n = wid B * hei B := by rw [← vx_len h, img_len]
  have hA : Has5 ((w.alloc (.cells #[.int .i64 B.x0, .int .i64 B.y0, .int .i64 B.x1, .int .i64 B.y1, .slice ao n m] 26)).alloc (.cells #[.int .u8 0, .int .u8 0, .int .u8 0, .int .u8 0] 28)) w.heap.size B ao n m := (Has5.new rfl _ _ _ _ _ _ _ _).alloc _
  have hC : Rc.Has4 ((w.alloc (.cells #[.int .i64 B.x0, .int .i64 B.y0, .int .i64 B.x1, .int .i64 B.y1, .slice ao n m] 26)).alloc (.cells #[.int .u8 0, .int .u8 0, .int .u8 0, .int .u8 0] 28)) (w.heap.size + 1) (.int .u8 0) (.int .u8 0) (.int .u8 0) (.int .u8 0) := Rc.Has4.new (by simp) _ _ _ _ _
  have hB : Below w.heap.size w ((w.alloc (.cells #[.int .i64 B.x0, .int .i64 B.y0, .int .i64 B.x1, .int .i64 B.y1, .slice ao n m] 26)).alloc (.cells #[.int .u8 0, .int .u8 0, .int .u8 0, .int .u8 0] 28)) := ((Below.refl _ _).alloc (Nat.le_refl _) _).alloc (by simp) _
  have HN := hid (And.intro ho hnn)
  rcases hh : hasB B x y with _ | _
  · have E : atX B f x y = noX := by unfold atX; rw [hh]; rfl
    rw [E]
    have HH := hid hh
    clear E hh h hnn
    go_enter Try.func24, Try.ntmps24
    go_wp2_with (go_at_call 39; with_reducible refine Calls.mono (place_any B ao n m x y _ HN.out.1 HN.out.2 hn hx hy) ?_; rintro e w1 ⟨rfl, hb1⟩; rw [HH.out]; replace hB := Rc.via hB hb1; replace hA := hA.below hb1; replace hC := hC.below hb1; obtain ⟨q0, q1, q2, q3, qf⟩ := id hC; have hz := hB.size; clear hb1)
    obtain ⟨s0, s1, s2, s3⟩ := Rc.set4 q0 q1 q2 q3 (.int .u8 0) (.int .u8 0) (.int .u8 0) (.int .u8 0)
    refine bodyPost_ret (v := .agg #[.int .u8 0, .int .u8 0, .int .u8 0, .int .u8 0]) (by simp [results, Try.results24, go_sem, s0, s1, s2, s3]) rfl ⟨rfl, ?_⟩
    go_grown
  · have E : atX B f x y = f x y := by unfold atX; rw [hh]; rfl
    rw [E]
    have hat := at_img f hh
    have hp := (pos_of hh).1
    obtain ⟨rfl, r0, r1, r2, r3⟩ := vx_at h hat
    have EP : placeI B x y = ((posN B x y : Nat) : Int) := by unfold placeI; rw [hh]; rfl
    have HP := hid EP
    have H := hid (And.intro h hat)
    have HH := hid hh
    have hqn : posN B x y < n := by omega
    generalize posN B x y = q at *
    have z1 : (q : Int) < (n : Int) := by omega
    clear E hh h hat hp hnn EP
    go_enter Try.func24, Try.ntmps24
    go_wp2_with (go_at_call 39; with_reducible refine Calls.mono (place_any B _ n m x y _ HN.out.1 HN.out.2 hn hx hy) ?_; rintro e w1 ⟨rfl, hb1⟩; rw [HH.out, HP.out]; replace hB := Rc.via hB hb1; replace hA := hA.below hb1; replace hC := hC.below hb1; obtain ⟨p0, p1, p2, p3, p4, pf⟩ := id hA; obtain ⟨q0, q1, q2, q3, qf⟩ := id hC; have hz := hB.size; obtain ⟨-, t0, t1, t2, t3⟩ := vx_at (H.out.1.below hB) H.out.2; clear hb1)
    obtain ⟨s0, s1, s2, s3⟩ := Rc.set4 q0 q1 q2 q3 (.int .u8 (f x y).c0) (.int .u8 (f x y).c1) (.int .u8 (f x y).c2) (.int .u8 (f x y).c3)
    refine bodyPost_ret (v := pxV (f x y)) (by simp [results, Try.results24, go_sem, s0, s1, s2, s3]) rfl ⟨rfl, ?_⟩
    go_grown

set_option maxRecDepth 100000 in
set_option maxHeartbeats 1000000 in
theorem put_any (lo k g off n m : Nat) (ao : Option Addr) (B : R) (f : Int → Int → X) (x y : Int) (p : X) (w : World) (ho : Ok B) (hn : n ≤ 5000) (hx : -9000000000000 ≤ x ∧ x ≤ 9000000000000) (hy : -9000000000000 ≤ y ∧ y ≤ 9000000000000) (h5 : Has5 w k B ao n m) (hO : Ox lo w ao n m g off (img B f)) (hkg : 0 < m → k ≠ g) :
    Calls Try.prog 23 #[.pointer (some ⟨k, 0, none⟩), .int .i64 x, .int .i64 y, pxV p] w fun e w' => e = .returned (.tuple #[]) ∧ Has5 w' k B ao n m ∧ Ox lo w' ao n m g off (img B (onePx B x y p f)) ∧ But g w w' := by
  have hnn : n = wid B * hei B := by rw [← vx_len hO.v, img_len]
  have HN := hid (And.intro ho (And.intro hnn (And.intro h5 (And.intro hO hkg))))
  have HB : Hid (Below w.heap.size w (w.alloc (.cells #[.int .u8 p.c0, .int .u8 p.c1, .int .u8 p.c2, .int .u8 p.c3] 28))) := (Below.refl _ _).alloc (Nat.le_refl _) _
  have HP : Hid (Rc.Has4 (w.alloc (.cells #[.int .u8 p.c0, .int .u8 p.c1, .int .u8 p.c2, .int .u8 p.c3] 28)) w.heap.size (.int .u8 p.c0) (.int .u8 p.c1) (.int .u8 p.c2) (.int .u8 p.c3)) := Rc.Has4.new rfl _ _ _ _ _
  obtain ⟨r0, r1, r2, r3, r4, rf⟩ := h5.below HB.out
  rcases hh : hasB B x y with _ | _
  · have HH := hid hh
    clear hh h5 hO hkg hnn
    go_enter Try.func23, Try.ntmps23
    go_wp2_with (go_at_call 39; with_reducible refine Calls.mono (place_any B ao n m x y _ HN.out.1 HN.out.2.1 hn hx hy) ?_; rintro e w1 ⟨rfl, hb1⟩; rw [HH.out]; have HB1 := hid (Rc.via HB.out hb1); clear hb1)
    refine bodyPost_end (v := .tuple #[]) (by simp [results, Try.results23, go_sem]) rfl ⟨rfl, HN.out.2.2.1.below HB1.out, ?_, But.of HB1.out⟩
    unfold onePx
    rw [if_neg (by rw [HH.out]; simp)]
    exact HN.out.2.2.2.1.below HB1.out
  · have hp := (pos_of hh).1
    have EP : placeI B x y = ((posN B x y : Nat) : Int) := by unfold placeI; rw [hh]; rfl
    have HE := hid EP
    have HH := hid hh
    have hqn : posN B x y < n := by omega
    have hm0 : 0 < m := by have := hO.v.le; omega
    obtain rfl := hO.v.addr hm0
    have hgw : g < w.heap.size := (hO.new hm0).2
    have hkg' := hkg hm0
    obtain ⟨q, hq⟩ : ∃ q, q = posN B x y := ⟨_, rfl⟩
    have HQ := hid hq
    rw [← hq] at hqn
    have z1 : (q : Int) < (n : Int) := by omega
    clear hh h5 hO hkg hp hnn EP hq
    go_enter Try.func23, Try.ntmps23
    go_wp2_with (go_at_call 39; with_reducible refine Calls.mono (place_any B _ n m x y _ HN.out.1 HN.out.2.1 hn hx hy) ?_; rintro e w1 ⟨rfl, hb1⟩; rw [HH.out, HE.out, ← HQ.out]; have HB1 := hid (Rc.via HB.out hb1); have HP1 := hid (HP.out.below hb1); clear hb1)
    have H51 := hid (HN.out.2.2.1.below HB1.out)
    have HO1 := hid (HN.out.2.2.2.1.below HB1.out)
    obtain ⟨p0, p1, p2, p3, pf⟩ := HP1.out
    obtain ⟨-, -, -, -, v4, -⟩ := H51.out
    obtain ⟨u0, u1, u2, u3, e0, e1, e2, e3, f0, f1, f2, f3⟩ := ox_at4 HO1.out hqn
    have HW : Hid (Has5 (w1.setCells g (off + q * 4) (flat [p])) k B (some ⟨g, off, none⟩) n m ∧ Ox lo (w1.setCells g (off + q * 4) (flat [p])) (some ⟨g, off, none⟩) n m g off (img B (onePx B x y p f)) ∧ But g w (w1.setCells g (off + q * 4) (flat [p]))) := by
      have hb := but_cells g (off + q * 4) (flat [p]) w1
      obtain ⟨x1, x2, x3, x4⟩ := of_decide_eq_true HH.out
      have h1 := ox_img_put HO1.out (a := x) (b := x + 1) (y := y) ⟨x3, x4, x1, by omega, by omega⟩ (fun _ => p)
      rw [line_one, ← HQ.out] at h1
      refine ⟨H51.out.but hb hkg', ?_, (But.of HB1.out).trans hb⟩
      unfold onePx
      rw [if_pos HH.out]
      exact h1
    go_region
    go_wp2
    refine bodyPost_end (v := .tuple #[]) (by simp [results, Try.results23, go_sem]) rfl ⟨rfl, HW.out.1.below (Below.refl _ _).drew, HW.out.2.1.below (Below.refl _ _).drew, HW.out.2.2.to (Below.refl _ _).drew⟩
end Go.Proofs.Ytkgacjbnblfhoaa
