/- Dilated by some and by others is dilated by the sums; no condition. -/
import Derived.Test.YtfkbdpbgeglgaaaRows
import Derived.WalkKit
import Derived.ProofKit
import Derived.OpenShut
import Derived.Test.YtfkbdpbgeglgaaaOpen
import Derived.Test.YtfkbdpbgeglgaaaKit
import Derived.Test.YtfkbdpbgeglgaaaGrown
import Derived.Deep.RegionHeld3
import Derived.Deep.DeepCutAuto
namespace Go.Proofs.Ytfkbdpbgeglgaaa.morphTwice
open Go.ChangeShapes Go.WideShapes Go.ChangeAt Go.RowKit Num
set_option linter.unusedVariables false
set_option linter.unusedSimpArgs false
theorem i64_wf {n : Int} (h : (Lit.int .i64 n).wf = true) : -9223372036854775808 ≤ n ∧ n ≤ 9223372036854775807 := by
  simp [Lit.wf] at h
  have h1 : IntKind.i64.min = -9223372036854775808 := by decide
  have h2 : IntKind.i64.max = 9223372036854775807 := by decide
  omega
theorem ne_before {k lo g : Nat} (h : k < lo) (hg : lo ≤ g) : g ≠ k := by omega
theorem ne_behind {c g s : Nat} (h : 0 < c → g < s) : 0 < c → g ≠ s := fun hc => Nat.ne_of_lt (h hc)
theorem most_v (B : R) (ao : Option Addr) (n m g off : Nat) (f : Int → Int → X) (D : R) (rx ry : Nat) (rx' ry' : Int) (w : World) (e1 : rx' = (rx : Int)) (e2 : ry' = (ry : Int)) (hB : bufB B n = true) (hn : n ≤ 5000) (hV : Vx w ao n m g off (img B f)) (hb : ∀ x y, byteX (f x y)) (hX : Half D) (ha : area (grow D (rx : Int) (ry : Int) (rx : Int) (ry : Int)) ≤ 5000) (hx : rx ≤ 255) (hy : ry ≤ 255) :
    Calls Try.prog 14 #[.agg #[.int .i64 B.x0, .int .i64 B.y0, .int .i64 B.x1, .int .i64 B.y1, .slice ao n m], .agg #[.int .i64 D.x0, .int .i64 D.y0, .int .i64 D.x1, .int .i64 D.y1], .int .i64 rx', .int .i64 ry'] w fun e w' => RetB w.heap.size w' e (orN D) (img (orN D) (morX false (atX B f) rx ry)) ∧ Below w.heap.size w w' := by
  subst e1; subst e2
  exact most_any B ao n m g off f D rx ry w hB hn hV hb hX ha hx hy
abbrev S13 (kb kd ke : Nat) (B : R) (vb : Value) (D E : R) (w' : World) : Prop := (w'.cell? ⟨kb, 0, none⟩ = some (.int .i64 B.x0) ∧ w'.cell? ⟨kb, 1, none⟩ = some (.int .i64 B.y0) ∧ w'.cell? ⟨kb, 2, none⟩ = some (.int .i64 B.x1) ∧ w'.cell? ⟨kb, 3, none⟩ = some (.int .i64 B.y1) ∧ w'.cell? ⟨kb, 4, none⟩ = some (vb)) ∧ (w'.cell? ⟨kd, 0, none⟩ = some (.int .i64 D.x0) ∧ w'.cell? ⟨kd, 1, none⟩ = some (.int .i64 D.y0) ∧ w'.cell? ⟨kd, 2, none⟩ = some (.int .i64 D.x1) ∧ w'.cell? ⟨kd, 3, none⟩ = some (.int .i64 D.y1)) ∧ (w'.cell? ⟨ke, 0, none⟩ = some (.int .i64 E.x0) ∧ w'.cell? ⟨ke, 1, none⟩ = some (.int .i64 E.y0) ∧ w'.cell? ⟨ke, 2, none⟩ = some (.int .i64 E.x1) ∧ w'.cell? ⟨ke, 3, none⟩ = some (.int .i64 E.y1))
theorem s13_below {kb kd ke : Nat} {B : R} {vb : Value} {D E : R} {w1 w2 : World} (h : S13 kb kd ke B vb D E w1) (hb : Below w1.heap.size w1 w2) : S13 kb kd ke B vb D E w2 := by
  obtain ⟨⟨a0, a1, a2, a3, a4⟩, ⟨b0, b1, b2, b3⟩, c0, c1, c2, c3⟩ := h
  have e1 := fun o => World.cell?_of_block (a := ⟨kb, o, none⟩) (hb.block kb (World.block_lt_of_cell? w1 ⟨kb, 0, none⟩ a0))
  have e2 := fun o => World.cell?_of_block (a := ⟨kd, o, none⟩) (hb.block kd (World.block_lt_of_cell? w1 ⟨kd, 0, none⟩ b0))
  have e3 := fun o => World.cell?_of_block (a := ⟨ke, o, none⟩) (hb.block ke (World.block_lt_of_cell? w1 ⟨ke, 0, none⟩ c0))
  exact ⟨⟨by rw [e1]; exact a0, by rw [e1]; exact a1, by rw [e1]; exact a2, by rw [e1]; exact a3, by rw [e1]; exact a4⟩, ⟨by rw [e2]; exact b0, by rw [e2]; exact b1, by rw [e2]; exact b2, by rw [e2]; exact b3⟩, by rw [e3]; exact c0, by rw [e3]; exact c1, by rw [e3]; exact c2, by rw [e3]; exact c3⟩
theorem s13_drew {kb kd ke : Nat} {B : R} {vb : Value} {D E : R} {w1 : World} (h : S13 kb kd ke B vb D E w1) : S13 kb kd ke B vb D E w1.drew := s13_below h (Below.refl _ _).drew
theorem s13_alloc {kb kd ke : Nat} {B : R} {vb : Value} {D E : R} {w1 : World} {o : Obj} (h : S13 kb kd ke B vb D E w1) : S13 kb kd ke B vb D E (w1.alloc o) := s13_below h ((Below.refl _ _).alloc (Nat.le_refl _) _)
theorem s13_set5 {kb kd ke j : Nat} {B : R} {vb : Value} {D E : R} {w1 : World} {v0 v1 v2 v3 v4 : Value} (h : S13 kb kd ke B vb D E w1) (h1 : kb ≠ j) (h2 : kd ≠ j) (h3 : ke ≠ j) : S13 kb kd ke B vb D E (((((w1.setCell ⟨j, 0, none⟩ v0).setCell ⟨j, 1, none⟩ v1).setCell ⟨j, 2, none⟩ v2).setCell ⟨j, 3, none⟩ v3).setCell ⟨j, 4, none⟩ v4) := by
  have hb := but_set5 w1 j v0 v1 v2 v3 v4
  obtain ⟨⟨a0, a1, a2, a3, a4⟩, ⟨b0, b1, b2, b3⟩, c0, c1, c2, c3⟩ := h
  have e1 := fun o => World.cell?_of_block (a := ⟨kb, o, none⟩) (hb.block kb (World.block_lt_of_cell? w1 ⟨kb, 0, none⟩ a0) h1)
  have e2 := fun o => World.cell?_of_block (a := ⟨kd, o, none⟩) (hb.block kd (World.block_lt_of_cell? w1 ⟨kd, 0, none⟩ b0) h2)
  have e3 := fun o => World.cell?_of_block (a := ⟨ke, o, none⟩) (hb.block ke (World.block_lt_of_cell? w1 ⟨ke, 0, none⟩ c0) h3)
  exact ⟨⟨by rw [e1]; exact a0, by rw [e1]; exact a1, by rw [e1]; exact a2, by rw [e1]; exact a3, by rw [e1]; exact a4⟩, ⟨by rw [e2]; exact b0, by rw [e2]; exact b1, by rw [e2]; exact b2, by rw [e2]; exact b3⟩, by rw [e3]; exact c0, by rw [e3]; exact c1, by rw [e3]; exact c2, by rw [e3]; exact c3⟩

set_option maxRecDepth 100000 in
set_option maxHeartbeats 4000000 in
theorem walk (B : R) (ao : Option Addr) (n m g off : Nat) (l : List X) (D : R) (rx ry by5 : Int) (W : World) (h : Vx W ao n m g off l) (hp : ∀ p, p ∈ l → byteX p) (hxr : -9223372036854775808 ≤ rx ∧ rx ≤ 9223372036854775807) (hyr : -9223372036854775808 ≤ ry ∧ ry ≤ 9223372036854775807) :
    Calls Try.prog 7 #[.agg #[.int .i64 B.x0, .int .i64 B.y0, .int .i64 B.x1, .int .i64 B.y1, .slice ao n m], .agg #[.int .i64 D.x0, .int .i64 D.y0, .int .i64 D.x1, .int .i64 D.y1], .int .i64 rx, .int .i64 ry, .int .i64 by5] W fun e w' => e = .returned (.bool true) ∧ Below W.heap.size W w' := by
  have hn := vx_small h
  have HX : Hid (Kx W B D ao n m ((W.alloc (.cells #[.int .i64 B.x0, .int .i64 B.y0, .int .i64 B.x1, .int .i64 B.y1, .slice ao n m] 26)).alloc (.cells #[.int .i64 D.x0, .int .i64 D.y0, .int .i64 D.x1, .int .i64 D.y1] 23))) := kx_new W B D ao n m
  obtain ⟨b0, b1, b2, b3, b4, bf⟩ := HX.out.b
  obtain ⟨r0, r1, r2, r3, rf⟩ := HX.out.d
  by_cases hb0 : by5 < 0
  · clear h hp
    go_enter Try.func7, Try.ntmps7
    go_wp2_with (first | (go_at_call 9; with_reducible refine Calls.mono (awake_any _) ?_; rintro e wc ⟨rfl, hb⟩; replace HX := hid (HX.out.below hb); clear hb; clear b0 b1 b2 b3 b4 bf r0 r1 r2 r3 rf; obtain ⟨b0, b1, b2, b3, b4, bf⟩ := HX.out.b; obtain ⟨r0, r1, r2, r3, rf⟩ := HX.out.d))
    go_ret
    exact ⟨rfl, HX.out.low⟩
  by_cases hb1 : 3 < by5
  · clear h hp
    go_enter Try.func7, Try.ntmps7
    go_wp2_with (first | (go_at_call 9; with_reducible refine Calls.mono (awake_any _) ?_; rintro e wc ⟨rfl, hb⟩; replace HX := hid (HX.out.below hb); clear hb; clear b0 b1 b2 b3 b4 bf r0 r1 r2 r3 rf; obtain ⟨b0, b1, b2, b3, b4, bf⟩ := HX.out.b; obtain ⟨r0, r1, r2, r3, rf⟩ := HX.out.d))
    go_ret
    exact ⟨rfl, HX.out.low⟩
  obtain ⟨rx', hrx'⟩ : ∃ r, IntKind.i64.wrap (rx + by5) = r := ⟨_, rfl⟩
  obtain ⟨ry', hry'⟩ : ∃ r, IntKind.i64.wrap (ry + by5) = r := ⟨_, rfl⟩
  rcases hF : fineQ B n D rx' ry' with _ | _
  · have HR := hid hF
    clear hF h hp hxr hyr
    go_enter Try.func7, Try.ntmps7
    go_wp2_with (first | (go_at_call 9; with_reducible refine Calls.mono (awake_any _) ?_; rintro e wc ⟨rfl, hb⟩; replace HX := hid (HX.out.below hb); clear hb; clear b0 b1 b2 b3 b4 bf r0 r1 r2 r3 rf; obtain ⟨b0, b1, b2, b3, b4, bf⟩ := HX.out.b; obtain ⟨r0, r1, r2, r3, rf⟩ := HX.out.d) | (go_at_call 10; with_reducible refine Calls.mono (fine_any B ao n m D rx' ry' _ hn) ?_; rintro e wc ⟨rfl, hb⟩; rw [HR.out]; replace HX := hid (HX.out.below hb); clear hb; clear b0 b1 b2 b3 b4 bf r0 r1 r2 r3 rf; obtain ⟨b0, b1, b2, b3, b4, bf⟩ := HX.out.b; obtain ⟨r0, r1, r2, r3, rf⟩ := HX.out.d))
    go_ret
    exact ⟨rfl, HX.out.low⟩
  by_cases hx0 : rx < 0
  · have HR := hid hF
    clear hF h hp hxr hyr
    go_enter Try.func7, Try.ntmps7
    go_wp2_with (first | (go_at_call 9; with_reducible refine Calls.mono (awake_any _) ?_; rintro e wc ⟨rfl, hb⟩; replace HX := hid (HX.out.below hb); clear hb; clear b0 b1 b2 b3 b4 bf r0 r1 r2 r3 rf; obtain ⟨b0, b1, b2, b3, b4, bf⟩ := HX.out.b; obtain ⟨r0, r1, r2, r3, rf⟩ := HX.out.d) | (go_at_call 10; with_reducible refine Calls.mono (fine_any B ao n m D rx' ry' _ hn) ?_; rintro e wc ⟨rfl, hb⟩; rw [HR.out]; replace HX := hid (HX.out.below hb); clear hb; clear b0 b1 b2 b3 b4 bf r0 r1 r2 r3 rf; obtain ⟨b0, b1, b2, b3, b4, bf⟩ := HX.out.b; obtain ⟨r0, r1, r2, r3, rf⟩ := HX.out.d))
    go_ret
    exact ⟨rfl, HX.out.low⟩
  by_cases hy0 : ry < 0
  · have HR := hid hF
    clear hF h hp hxr hyr
    go_enter Try.func7, Try.ntmps7
    go_wp2_with (first | (go_at_call 9; with_reducible refine Calls.mono (awake_any _) ?_; rintro e wc ⟨rfl, hb⟩; replace HX := hid (HX.out.below hb); clear hb; clear b0 b1 b2 b3 b4 bf r0 r1 r2 r3 rf; obtain ⟨b0, b1, b2, b3, b4, bf⟩ := HX.out.b; obtain ⟨r0, r1, r2, r3, rf⟩ := HX.out.d) | (go_at_call 10; with_reducible refine Calls.mono (fine_any B ao n m D rx' ry' _ hn) ?_; rintro e wc ⟨rfl, hb⟩; rw [HR.out]; replace HX := hid (HX.out.below hb); clear hb; clear b0 b1 b2 b3 b4 bf r0 r1 r2 r3 rf; obtain ⟨b0, b1, b2, b3, b4, bf⟩ := HX.out.b; obtain ⟨r0, r1, r2, r3, rf⟩ := HX.out.d))
    go_ret
    exact ⟨rfl, HX.out.low⟩
  obtain ⟨hnear, hfew, ⟨k1, k2⟩, k3, k4⟩ := near_of hF
  have ex : rx' = rx + by5 := by rw [← hrx'] at k1 k2 ⊢; rw [IntKind.wrap_i64] at k1 k2 ⊢; omega
  have ey : ry' = ry + by5 := by rw [← hry'] at k3 k4 ⊢; rw [IntKind.wrap_i64] at k3 k4 ⊢; omega
  obtain ⟨a, rfl⟩ : ∃ a : Nat, rx = (a : Int) := ⟨rx.toNat, by omega⟩
  obtain ⟨b, rfl⟩ : ∃ b : Nat, ry = (b : Int) := ⟨ry.toNat, by omega⟩
  obtain ⟨k, rfl⟩ : ∃ k : Nat, by5 = (k : Int) := ⟨by5.toNat, by omega⟩
  have ea : rx' = ((a + k : Nat) : Int) := by omega
  have eb : ry' = ((b + k : Nat) : Int) := by omega
  subst ea
  subst eb
  obtain ⟨a2, b2', hG⟩ := good8 hF
  have hU0 := bu_of h hp hG
  have f1 := hG.hrx
  have f2 := hG.hry
  obtain rfl : a2 = a + k := by omega
  obtain rfl : b2' = b + k := by omega
  have hk3 : k ≤ 3 := by omega
  have ha8 : a + k ≤ 8 := hG.ha
  have hb8 : b + k ≤ 8 := hG.hb
  obtain ⟨E, hE⟩ : ∃ E, E = grow D (k : Int) (k : Int) (k : Int) (k : Int) := ⟨_, rfl⟩
  have hGw : Gw D E k k := by rw [hE]; exact grow_of hnear (by omega) (by omega)
  have hEa : area (grow E (a : Int) (b : Int) (a : Int) (b : Int)) ≤ 5000 := by
    rw [hE, grow_grow hnear (by omega) (by omega) (by omega) (by omega)]
    omega
  have hE5 : area E ≤ 5000 := Int.le_trans (grow_area hGw.half (by omega) (by omega)) hEa
  have hbuf := buf_new hGw.half.ok hE5
  rw [hGw.orn] at hbuf
  obtain ⟨f, hf⟩ : ∃ f, f = unimg B l := ⟨_, rfl⟩
  have e1 := hU0.im
  rw [← hf] at e1
  have HU : Hid (n ≤ 5000 ∧ bufB B n = true ∧ (∀ x y, byteX (f x y)) ∧ Ok B ∧ Half D ∧ area (grow D ((a + k : Nat) : Int) ((b + k : Nat) : Int) ((a + k : Nat) : Int) ((b + k : Nat) : Int)) ≤ 5000) := ⟨hU0.n5, hU0.buf, by rw [hf]; exact hU0.byt, hU0.ok, hU0.half, hU0.few⟩
  have HE : Hid (Half E ∧ area (grow E (a : Int) (b : Int) (a : Int) (b : Int)) ≤ 5000 ∧ orN E = E ∧ bufB E (wid E * hei E) = true ∧ wid E * hei E ≤ 5000 ∧ area (grow D (k : Int) (k : Int) (k : Int) (k : Int)) ≤ 5000) := ⟨hGw.half, hEa, hGw.orn, hbuf.1, hbuf.2.1, by rw [← hE]; exact hE5⟩
  have HI := hid (twice_img (t := false) hGw (atX B f) a b)
  have HBY : Hid (∀ x y, byteX (morX false (atX B f) a b x y)) := fun x y => mor_byte (fun u v => at_byte HU.out.2.2.1 u v) false a b x y
  subst e1
  have HV := hid h
  have HR := hid hF
  have HEE : Hid (grow ⟨D.x0, D.y0, D.x1, D.y1⟩ (k : Int) (k : Int) (k : Int) (k : Int) = E) := hE.symm
  have HC : Hid (Ok ⟨D.x0, D.y0, D.x1, D.y1⟩ ∧ ((0 : Int) ≤ (k : Int) ∧ (k : Int) ≤ 4398046511104)) := ⟨hU0.half.ok, by omega⟩
  obtain ⟨Z, hZ⟩ : ∃ Z, Z = orN D := ⟨_, rfl⟩
  have HZ := hid hZ.symm
  have w1 : IntKind.i64.wrap ((a : Int) + (k : Int)) = (a : Int) + (k : Int) := by rw [IntKind.wrap_i64]; omega
  have w2 : IntKind.i64.wrap ((b : Int) + (k : Int)) = (b : Int) + (k : Int) := by rw [IntKind.wrap_i64]; omega
  replace HR : Hid (fineQ B n D ((a : Int) + (k : Int)) ((b : Int) + (k : Int)) = true) := HR.out
  have HAK : Hid ((a : Int) + (k : Int) = ((a + k : Nat) : Int) ∧ (b : Int) + (k : Int) = ((b + k : Nat) : Int)) := ⟨by omega, by omega⟩
  have hab : a ≤ 255 ∧ b ≤ 255 ∧ k ≤ 255 ∧ a + k ≤ 255 ∧ b + k ≤ 255 := by omega
  obtain ⟨ha2, hb2, hk2, hak, hbk⟩ := hab
  clear hU0 hG h hf hZ hF hE hGw hEa hE5 hbuf hxr hyr hnear hfew hp f1 f2 k1 k2 k3 k4 ex ey hrx' hry'
  go_enter Try.func7, Try.ntmps7
  go_wp2_with (first
    | (go_at_call 9; with_reducible refine Calls.mono (awake_any _) ?_; rintro e wc ⟨rfl, hb⟩; replace HX := hid (HX.out.below hb); clear hb; clear b0 b1 b2 b3 b4 bf r0 r1 r2 r3 rf; obtain ⟨b0, b1, b2, b3, b4, bf⟩ := HX.out.b; obtain ⟨r0, r1, r2, r3, rf⟩ := HX.out.d)
    | (go_at_call 10; with_reducible refine Calls.mono (fine_any B ao n m D ((a : Int) + (k : Int)) ((b : Int) + (k : Int)) _ hn) ?_; rintro e wc ⟨rfl, hb⟩; rw [HR.out]; replace HX := hid (HX.out.below hb); clear hb; clear b0 b1 b2 b3 b4 bf r0 r1 r2 r3 rf; obtain ⟨b0, b1, b2, b3, b4, bf⟩ := HX.out.b; obtain ⟨r0, r1, r2, r3, rf⟩ := HX.out.d)
    | (go_at_call 18; with_reducible refine Calls.mono (Rc.refGrow_any D.x0 D.y0 D.x1 D.y1 (k : Int) (k : Int) (k : Int) (k : Int) _ HC.out.1 HC.out.2 HC.out.2 HC.out.2 HC.out.2) ?_; rintro e w1 ⟨rfl, hb1⟩; rw [HEE.out]; have HX1 := hid (HX.out.below hb1); clear hb1 b0 b1 b2 b3 b4 bf r0 r1 r2 r3 rf))
  have HX6 := hid (HX1.out.below ((Below.refl w1.heap.size w1).alloc (Nat.le_refl _) (.cells #[.int .i64 E.x0, .int .i64 E.y0, .int .i64 E.x1, .int .i64 E.y1] 23)))
  have HE4 := hid (Rc.Has4.new (W := w1) (k := w1.heap.size) rfl (.int .i64 E.x0) (.int .i64 E.y0) (.int .i64 E.x1) (.int .i64 E.y1) 23)
  clear HX HX1
  generalize w1.alloc (.cells #[.int .i64 E.x0, .int .i64 E.y0, .int .i64 E.x1, .int .i64 E.y1] 23) = W6 at HX6 HE4 ⊢
  generalize w1.heap.size = k11 at HE4 ⊢
  have hS : S13 W.heap.size (W.heap.size + 1) k11 B (.slice ao n m) D E W6 := ⟨⟨HX6.out.b.c0, HX6.out.b.c1, HX6.out.b.c2, HX6.out.b.c3, HX6.out.b.c4⟩, ⟨HX6.out.d.c0, HX6.out.d.c1, HX6.out.d.c2, HX6.out.d.c3⟩, HE4.out.c0, HE4.out.c1, HE4.out.c2, HE4.out.c3⟩
  have hb6 : W.heap.size < W6.heap.size := HX6.out.b.lt
  have hd6 : W.heap.size + 1 < W6.heap.size := HX6.out.d.lt
  have he6 : k11 < W6.heap.size := HE4.out.lt
  go_cut [12] (fun vv wx => ∃ k12 co cn cm cg coff, vv = .pointer (some ⟨k12, 0, none⟩) ∧ W6.heap.size ≤ k12 ∧ Has5 wx k12 Z co cn cm ∧ Vx wx co cn cm cg coff (img Z (morX false (atX B f) (a + k) (b + k))) ∧ cn = wid Z * hei Z ∧ Below W6.heap.size W6 wx)
  case first =>
    go_region_held3 (fun w' => (w'.cell? ⟨W.heap.size, 0, none⟩ = some (.int .i64 B.x0) ∧ w'.cell? ⟨W.heap.size, 1, none⟩ = some (.int .i64 B.y0) ∧ w'.cell? ⟨W.heap.size, 2, none⟩ = some (.int .i64 B.x1) ∧ w'.cell? ⟨W.heap.size, 3, none⟩ = some (.int .i64 B.y1) ∧ w'.cell? ⟨W.heap.size, 4, none⟩ = some (.slice ao n m)) ∧ (w'.cell? ⟨(W.heap.size + 1), 0, none⟩ = some (.int .i64 D.x0) ∧ w'.cell? ⟨(W.heap.size + 1), 1, none⟩ = some (.int .i64 D.y0) ∧ w'.cell? ⟨(W.heap.size + 1), 2, none⟩ = some (.int .i64 D.x1) ∧ w'.cell? ⟨(W.heap.size + 1), 3, none⟩ = some (.int .i64 D.y1)) ∧ (w'.cell? ⟨k11, 0, none⟩ = some (.int .i64 E.x0) ∧ w'.cell? ⟨k11, 1, none⟩ = some (.int .i64 E.y0) ∧ w'.cell? ⟨k11, 2, none⟩ = some (.int .i64 E.x1) ∧ w'.cell? ⟨k11, 3, none⟩ = some (.int .i64 E.y1))) (repeat (first | with_reducible assumption | with_reducible refine s13_drew ?_ | with_reducible refine s13_alloc ?_ | with_reducible refine s13_set5 ?_ (by omega) (by omega) (by omega) | with_reducible refine s13_below ?_ ‹_›))
      ((first
        | (go_at_call 14; with_reducible refine Calls.mono (most_any B ao n m g off f E a b _ HU.out.2.1 HU.out.1 (HV.out.below (Rc.via HX6.out.low ((Below.refl W6.heap.size W6).alloc (Nat.le_refl _) (.cells #[.int .i64 0, .int .i64 0, .int .i64 0, .int .i64 0, .slice none 0 0] 26)).drew)) HU.out.2.2.1 HE.out.1 HE.out.2.1 ha2 hb2) ?_; rintro e w2 ⟨hr, hb2'⟩; rw [HE.out.2.2.1] at hr; obtain ⟨eo, en, em, eg, eoff, rfl, hO, hg1, hg2, hln⟩ := retG hr; have hen : en = wid E * hei E := (by rw [img_len] at hln; exact hln.symm); have HEN := hid hen; clear hen; have HO2 := hid hO.v; have HB2 := hid (Rc.via ((Below.refl W6.heap.size W6).alloc (Nat.le_refl _) (.cells #[.int .i64 0, .int .i64 0, .int .i64 0, .int .i64 0, .slice none 0 0] 26)).drew hb2'); have HZ2 := hid (((Has5.new (W := W6) (k := W6.heap.size) rfl 0 0 0 0 none 0 0 26).below (Below.refl _ _).drew).below hb2'); clear hr hO hg1 hg2 hln)
        | (go_at_call 14; with_reducible refine Calls.mono (most_any B ao n m g off f E a b _ HU.out.2.1 HU.out.1 (HV.out.below (Rc.via HX6.out.low ((Below.refl W6.heap.size W6).drew))) HU.out.2.2.1 HE.out.1 HE.out.2.1 ha2 hb2) ?_; rintro e w2 ⟨hr, hb2'⟩; rw [HE.out.2.2.1] at hr; obtain ⟨eo, en, em, eg, eoff, rfl, hO, hg1, hg2, hln⟩ := retG hr; have hen : en = wid E * hei E := (by rw [img_len] at hln; exact hln.symm); have HEN := hid hen; clear hen; have HO2 := hid hO.v; have HB2 := hid (Rc.via ((Below.refl W6.heap.size W6).drew) hb2'); clear hr hO hg1 hg2 hln)
        | (go_at_call 14; with_reducible refine Calls.mono (most_any E eo en em eg eoff (morX false (atX B f) a b) D k k _ (by rw [HEN.out]; exact HE.out.2.2.2.1) (by rw [HEN.out]; exact HE.out.2.2.2.2.1) HO2.out HBY.out HU.out.2.2.2.2.1 HE.out.2.2.2.2.2 hk2 hk2) ?_; rintro e w3 ⟨hr, hb3⟩; rw [HI.out, HZ.out] at hr; obtain ⟨co, cn, cm, cg, coff, rfl, hO, hg1, hg2, hln⟩ := retG hr; have hcn : cn = wid Z * hei Z := (by rw [img_len] at hln; exact hln.symm); have HCN := hid hcn; clear hcn; have HZ3 := hid (HZ2.out.below hb3); have HB3 := hid (Rc.via HB2.out hb3); have HO3 := hid (And.intro hO (And.intro hg1 (And.intro hg2 (ne_before HZ2.out.lt hg1)))); have hz3 := HB3.out.size; obtain ⟨p0, p1, p2, p3, p4, pf⟩ := HZ3.out; clear hr hO hg1 hg2 hln)
        | (go_at_call 14; with_reducible refine Calls.mono (most_any E eo en em eg eoff (morX false (atX B f) a b) D k k _ (by rw [HEN.out]; exact HE.out.2.2.2.1) (by rw [HEN.out]; exact HE.out.2.2.2.2.1) (HO2.out.below ((Below.refl w2.heap.size w2).alloc (Nat.le_refl _) (.cells #[.int .i64 0, .int .i64 0, .int .i64 0, .int .i64 0, .slice none 0 0] 26))) HBY.out HU.out.2.2.2.2.1 HE.out.2.2.2.2.2 hk2 hk2) ?_; rintro e w3 ⟨hr, hb3⟩; rw [HI.out, HZ.out] at hr; obtain ⟨co, cn, cm, cg, coff, rfl, hO, hg1, hg2, hln⟩ := retG hr; have hcn : cn = wid Z * hei Z := (by rw [img_len] at hln; exact hln.symm); have HCN := hid hcn; clear hcn; have HZ3 := hid ((Has5.new (W := w2) (k := w2.heap.size) rfl 0 0 0 0 none 0 0 26).below hb3); have HB3 := hid (Rc.via (HB2.out.alloc HB2.out.size (.cells #[.int .i64 0, .int .i64 0, .int .i64 0, .int .i64 0, .slice none 0 0] 26)) hb3); have HO3 := hid (And.intro hO (And.intro hg1 (And.intro hg2 (ne_before (lt_alloc w2 (.cells #[.int .i64 0, .int .i64 0, .int .i64 0, .int .i64 0, .slice none 0 0] 26)) hg1)))); have hz3 := HB3.out.size; have hz2 := HB2.out.size; obtain ⟨p0, p1, p2, p3, p4, pf⟩ := HZ3.out; clear hr hO hg1 hg2 hln)
        | (go_at_call 14; with_reducible refine Calls.mono (most_any E eo en em eg eoff (morX false (atX B f) a b) D k k _ (by rw [HEN.out]; exact HE.out.2.2.2.1) (by rw [HEN.out]; exact HE.out.2.2.2.2.1) HO2.out HBY.out HU.out.2.2.2.2.1 HE.out.2.2.2.2.2 hk2 hk2) ?_; rintro e w3 ⟨hr, hb3⟩; rw [HI.out, HZ.out] at hr; obtain ⟨co, cn, cm, cg, coff, rfl, hO, hg1, hg2, hln⟩ := retG hr; have hcn : cn = wid Z * hei Z := (by rw [img_len] at hln; exact hln.symm); have HCN := hid hcn; clear hcn; have HB3 := hid (Rc.via HB2.out hb3); have HO3 := hid (And.intro hO (And.intro hg1 (And.intro hg2 (ne_behind hg2)))); have hz3 := HB3.out.size; clear hr hO hg1 hg2 hln)))
    all_goals
      go_wp2_with fail
      go_meet
    all_goals first
      | exact ⟨_, co, cn, cm, cg, coff, rfl, (by omega), has5_set HZ3.out Z.x0 Z.y0 Z.x1 Z.y1 co cn cm, (HO3.out.1.but (but_set5 _ _ _ _ _ _ _) (fun _ => HO3.out.2.2.2)).v, HCN.out, below_set5 HB3.out (by omega) _ _ _ _ _⟩
      | exact ⟨w3.heap.size, co, cn, cm, cg, coff, rfl, hz3, Has5.new rfl Z.x0 Z.y0 Z.x1 Z.y1 co cn cm 26, (HO3.out.1.below ((Below.refl _ _).alloc (Nat.le_refl _) _)).v, HCN.out, HB3.out.alloc hz3 _⟩
  case rest =>
    obtain ⟨k12, co, cn, cm, cg, coff, rfl, hk12, hC5, hCV, hcn, hCB⟩ := hcut
    obtain ⟨W7, rfl⟩ : ∃ W7, W7 = wc := ⟨_, rfl⟩
    have HX7 := hid (HX6.out.below hCB)
    have HC7 := hid (And.intro hC5 hCV)
    have HCN := hid hcn
    clear hcn
    clear hS hC5 hCV hCB HX6 HE4
    go_wp2
    have hS := s14_of HC7.out.1 HX7.out.b HX7.out.d
    go_region_held3 (fun w' => (w'.cell? ⟨k12, 0, none⟩ = some (.int .i64 Z.x0) ∧ w'.cell? ⟨k12, 1, none⟩ = some (.int .i64 Z.y0) ∧ w'.cell? ⟨k12, 2, none⟩ = some (.int .i64 Z.x1) ∧ w'.cell? ⟨k12, 3, none⟩ = some (.int .i64 Z.y1) ∧ w'.cell? ⟨k12, 4, none⟩ = some (.slice co cn cm)) ∧ (w'.cell? ⟨W.heap.size, 0, none⟩ = some (.int .i64 B.x0) ∧ w'.cell? ⟨W.heap.size, 1, none⟩ = some (.int .i64 B.y0) ∧ w'.cell? ⟨W.heap.size, 2, none⟩ = some (.int .i64 B.x1) ∧ w'.cell? ⟨W.heap.size, 3, none⟩ = some (.int .i64 B.y1) ∧ w'.cell? ⟨W.heap.size, 4, none⟩ = some (.slice ao n m)) ∧ (w'.cell? ⟨(W.heap.size + 1), 0, none⟩ = some (.int .i64 D.x0) ∧ w'.cell? ⟨(W.heap.size + 1), 1, none⟩ = some (.int .i64 D.y0) ∧ w'.cell? ⟨(W.heap.size + 1), 2, none⟩ = some (.int .i64 D.x1) ∧ w'.cell? ⟨(W.heap.size + 1), 3, none⟩ = some (.int .i64 D.y1))) (repeat (first | with_reducible assumption | with_reducible refine s14_drew ?_ | with_reducible refine s14_below ?_ ‹_›))
      ((first
        | (go_at_call 14; with_reducible refine Calls.mono (most_v B ao n m g off f D (a + k) (b + k) _ _ _ HAK.out.1 HAK.out.2 HU.out.2.1 HU.out.1 (HV.out.below HX7.out.low.drew) HU.out.2.2.1 HU.out.2.2.2.2.1 HU.out.2.2.2.2.2 hak hbk) ?_; rintro e w8 ⟨hr, hb8⟩; rw [HZ.out] at hr; obtain ⟨do5, dn, dm, dg, doff, rfl, hO, hg1, hg2, hln⟩ := retG hr; have hdn : cn = dn := (by have := HCN.out; rw [img_len] at hln; omega); subst hdn; have HO8 := hid hO.v; have HB8 := hid (Rc.via ((Below.refl W7.heap.size W7).drew) hb8); clear hr hO hg1 hg2 hln)
        | (go_at_call 11; with_reducible refine Calls.mono (same_yes Z co cn cm cg coff do5 dm dg doff _ _ (HC7.out.2.below HB8.out) HO8.out) ?_; rintro e w9 ⟨rfl, hb9⟩; have HB9 := hid (Rc.via HB8.out hb9))))
    go_wp2
    go_ret
    exact ⟨rfl, Rc.via HX7.out.low HB9.out⟩

theorem own : ownKnob Try.prog.godebug = none := by kernel_rfl

set_option maxRecDepth 100000 in
theorem lifted (os : Os) (started : os.Started) (H : Type) (enc : TypeId × Value → H) :
    ReturnsInHanded {} Try.checked os 7 .any (Rows.morphTwiceSpec.pre6 enc Try.prog Try.f7 Rows.morphTwiceRow.domain false) (Rows.morphTwiceSpec.post enc Try.prog Try.f7 false true false false) := by
  refine returnsInHanded_of_change (C := Try.checked) own started (by kernel_rfl) Try.func7
    (ChangeSpec.witness6 (enc := enc) (C := Try.checked) false ⟨#[], #[.agg #[.int .i64 0, .int .i64 0, .int .i64 0, .int .i64 0, .slice none 0 0], .agg #[.int .i64 0, .int .i64 0, .int .i64 0, .int .i64 0], .int .i64 0, .int .i64 0, .int .i64 0], []⟩ 8 (by kernel_rfl) (by kernel_rfl) (by kernel_rfl) (by kernel_rfl)) ?_
  intro W base args ds gs before hval0 hW hcnd _
  have hval : ∀ (j : Nat) t v, Try.f7.params[j]? = some t → args[j]? = some v → Value.okWide Try.prog W .any base t v := hval0
  have hW' := hW
  obtain ⟨p, q, hA0, hV, rfl, hfz, hnd⟩ := hW
  have hA : DataW.TrodAll enc Try.prog W 0 (fun _ => true) true Try.f7.params.toList args.toList ds p := hA0
  rw [Try.params7] at hA hval
  obtain ⟨v0, vs0, d0, ds0, p0, q0, hargs, rfl, rfl, h0, r0⟩ := trodAll_cons hA
  obtain ⟨v1, vs1, d1, ds1, p1, q1, rfl, rfl, rfl, h1, r1⟩ := trodAll_cons r0
  obtain ⟨v2, vs2, d2, ds2, p2, q2, rfl, rfl, rfl, h2, r2⟩ := trodAll_cons r1
  obtain ⟨v3, vs3, d3, ds3, p3, q3, rfl, rfl, rfl, h3, r3⟩ := trodAll_cons r2
  obtain ⟨v4, vs4, d4, ds4, p4, q4, rfl, rfl, rfl, h4, r4⟩ := trodAll_cons r3
  obtain ⟨rfl, rfl, rfl⟩ := trodAll_nil r4
  obtain rfl : args = #[v0, v1, v2, v3, v4] := by cases args; simp_all
  obtain ⟨rfl, rfl⟩ := trodVars_none hV
  obtain ⟨B, ao, n, c, g, off, l, rfl, hv0, hp0⟩ := open_buf (hval 0 26 v0 rfl rfl) h0
  obtain ⟨D, rfl⟩ := open_rect (hval 1 23 v1 rfl rfl) h1
  obtain ⟨rx, rfl, -, -, wx⟩ := open_int Try.underlying3 (hval 2 3 v2 rfl rfl) h2
  obtain ⟨ry, rfl, -, -, wy⟩ := open_int Try.underlying3 (hval 3 3 v3 rfl rfl) h3
  obtain ⟨by5, rfl, -, -, -⟩ := open_int Try.underlying3 (hval 4 3 v4 rfl rfl) h4
  clear hA0 hval0
  simp only [List.append_nil] at hW'
  have hlt : ∀ x ∈ p0 ++ (p1 ++ (p2 ++ (p3 ++ (p4)))), x.block < W.heap.size := fun x hx => by simpa using hW'.lt x (by simpa using hx)
  refine (walk B ao n c g off l D rx ry by5 W hv0 hp0 (i64_wf wx) (i64_wf wy)).mono fun e W' ⟨he, hg⟩ => ?_
  subst he
  have t0 := Below.trod laidOut (by kernel_rfl) (of_decide_eq_true (by kernel_rfl)) h0 hg (fun x hx => hlt x (List.mem_append_left _ hx))
  have t1 := Below.trod laidOut (by kernel_rfl) (of_decide_eq_true (by kernel_rfl)) h1 hg (fun x hx => hlt x (List.mem_append_right _ (List.mem_append_left _ hx)))
  have t2 := Below.trod laidOut (by kernel_rfl) (of_decide_eq_true (by kernel_rfl)) h2 hg (fun x hx => hlt x (List.mem_append_right _ (List.mem_append_right _ (List.mem_append_left _ hx))))
  have t3 := Below.trod laidOut (by kernel_rfl) (of_decide_eq_true (by kernel_rfl)) h3 hg (fun x hx => hlt x (List.mem_append_right _ (List.mem_append_right _ (List.mem_append_right _ (List.mem_append_left _ hx)))))
  have t4 := Below.trod laidOut (by kernel_rfl) (of_decide_eq_true (by kernel_rfl)) h4 hg (fun x hx => hlt x (List.mem_append_right _ (List.mem_append_right _ (List.mem_append_right _ (List.mem_append_right _ (hx))))))
  exact ⟨_, rfl, ⟨_, _, _, _, _, _, hW', (trodAll_cons_mk (shut_bool Try.underlying4 _) trodAll_mk0), (trodAll_cons_mk t0 (trodAll_cons_mk t1 (trodAll_cons_mk t2 (trodAll_cons_mk t3 (trodAll_cons_mk t4 trodAll_mk0))))), rfl, hg.frame _, fun h => by cases h⟩⟩

theorem over : Rows.morphTwiceRow.holds Try.pinned (OpenSpec.ofChange Rows.morphTwiceSpec) :=
  OpenClaim.holds_of_wide 7 Try.f7 rfl rfl rfl rfl rfl rfl rfl ⟨rfl, rfl, rfl, rfl, rfl⟩ rfl rfl rfl rfl rfl (by kernel_rfl) Try.func7 (by kernel_rfl)
    (of_decide_eq_true (by kernel_rfl)) (by unfold Func.isWrapper; first | (rw [if_pos (by decide +kernel)]; kernel_rfl) | (rw [if_neg (by decide +kernel)]; exact ⟨rfl, rfl⟩))
    (fun os started H enc _ => lifted os started H enc)

theorem proved : Rows.MorphTwiceSaid := over
#print axioms proved
end Go.Proofs.Ytfkbdpbgeglgaaa.morphTwice
