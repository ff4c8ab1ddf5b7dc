/- What is handed in stays, whatever is written into what was answered; no condition. -/
import Derived.Test.YtfkbdpbgeglgaaaRows
import Derived.WalkKit
import Derived.ProofKit
import Derived.OpenShut
import Derived.Test.YtfkbdpbgeglgaaaOpen
import Derived.Test.YtfkbdpbgeglgaaaKit
import Derived.Deep.DeepCutAuto
import Derived.Test.YtfkbdpbgeglgaaaCopied
import Derived.Deep.RegionHeld3
namespace Go.Proofs.Ytfkbdpbgeglgaaa.morphKeeps
open Go.ChangeShapes Go.WideShapes Go.ChangeAt Go.RowKit Num
set_option linter.unusedVariables false
set_option linter.unusedSimpArgs false
theorem ox_four {lo : Nat} {w : World} {ao : Option Addr} {n m g off : Nat} {l : List X} (h : Ox lo w ao n m g off l) {q i : Nat} (hi : q + i < n) : ∃ u0 u1 u2 u3, w.cell? ⟨g, off + q * 4 + i * 4, none⟩ = some u0 ∧ w.cell? ⟨g, off + q * 4 + i * 4 + 1, none⟩ = some u1 ∧ w.cell? ⟨g, off + q * 4 + i * 4 + 2, none⟩ = some u2 ∧ w.cell? ⟨g, off + q * 4 + i * 4 + 3, none⟩ = some u3 ∧
    w.frozen? ⟨g, off + q * 4 + i * 4, none⟩ = false ∧ w.frozen? ⟨g, off + q * 4 + i * 4 + 1, none⟩ = false ∧ w.frozen? ⟨g, off + q * 4 + i * 4 + 2, none⟩ = false ∧ w.frozen? ⟨g, off + q * 4 + i * 4 + 3, none⟩ = false := by
  have hle := h.v.le
  have r : ∀ j, j < 4 → (w.cell? ⟨g, off + q * 4 + i * 4 + j, none⟩).isSome = true ∧ w.frozen? ⟨g, off + q * 4 + i * 4 + j, none⟩ = false := by
    intro j hj
    rw [show off + q * 4 + i * 4 + j = off + (q * 4 + i * 4 + j) by omega]
    exact h.room _ (by omega)
  have r0 := r 0 (by omega)
  rw [Nat.add_zero] at r0
  obtain ⟨u0, e0⟩ := Option.isSome_iff_exists.1 r0.1
  obtain ⟨u1, e1⟩ := Option.isSome_iff_exists.1 (r 1 (by omega)).1
  obtain ⟨u2, e2⟩ := Option.isSome_iff_exists.1 (r 2 (by omega)).1
  obtain ⟨u3, e3⟩ := Option.isSome_iff_exists.1 (r 3 (by omega)).1
  exact ⟨u0, u1, u2, u3, e0, e1, e2, e3, r0.2, (r 1 (by omega)).2, (r 2 (by omega)).2, (r 3 (by omega)).2⟩
attribute [local go_sem ↓] run_app
attribute [local go_sem] lenV_slice
theorem ox_at4 {lo : Nat} {w : World} {ao : Option Addr} {n m g off : Nat} {l : List X} (h : Ox lo w ao n m g off l) {i : Nat} (hi : i < n) : ∃ u0 u1 u2 u3, w.cell? ⟨g, off + i * 4, none⟩ = some u0 ∧ w.cell? ⟨g, off + i * 4 + 1, none⟩ = some u1 ∧ w.cell? ⟨g, off + i * 4 + 2, none⟩ = some u2 ∧ w.cell? ⟨g, off + i * 4 + 3, none⟩ = some u3 ∧
    w.frozen? ⟨g, off + i * 4, none⟩ = false ∧ w.frozen? ⟨g, off + i * 4 + 1, none⟩ = false ∧ w.frozen? ⟨g, off + i * 4 + 2, none⟩ = false ∧ w.frozen? ⟨g, off + i * 4 + 3, none⟩ = false := by
  have := ox_four h (q := 0) (i := i) (by omega)
  rw [show off + 0 * 4 + i * 4 = off + i * 4 by omega] at this
  exact this
theorem s5c_alloc {k : Nat} {Q : R} {v : Value} {w1 : World} {o : Obj} (h : S5c k Q v w1) : S5c k Q v (w1.alloc o) := s5c_below h ((Below.refl _ _).alloc (Nat.le_refl _) _)
theorem s5c_set5 {k j : Nat} {Q : R} {v : Value} {w1 : World} {v0 v1 v2 v3 v4 : Value} (h : S5c k Q v w1) (hj : k ≠ j) : S5c k Q v (((((w1.setCell ⟨j, 0, none⟩ v0).setCell ⟨j, 1, none⟩ v1).setCell ⟨j, 2, none⟩ v2).setCell ⟨j, 3, none⟩ v3).setCell ⟨j, 4, none⟩ v4) := by
  have hb := but_set5 w1 j v0 v1 v2 v3 v4
  obtain ⟨c0, c1, c2, c3, c4⟩ := h
  have e1 := fun o => World.cell?_of_block (a := ⟨k, o, none⟩) (hb.block k (World.block_lt_of_cell? w1 ⟨k, 0, none⟩ c0) hj)
  exact ⟨by rw [e1]; exact c0, by rw [e1]; exact c1, by rw [e1]; exact c2, by rw [e1]; exact c3, by rw [e1]; exact c4⟩

set_option maxRecDepth 100000 in
set_option maxHeartbeats 4000000 in
theorem walk (B : R) (ao : Option Addr) (n m g off : Nat) (l : List X) (D : R) (rx : Int) (W : World) (h : Vx W ao n m g off l) (hp : ∀ p, p ∈ l → byteX p) :
    Calls Try.prog 8 #[.agg #[.int .i64 B.x0, .int .i64 B.y0, .int .i64 B.x1, .int .i64 B.y1, .slice ao n m], .agg #[.int .i64 D.x0, .int .i64 D.y0, .int .i64 D.x1, .int .i64 D.y1], .int .i64 rx] W fun e w' => e = .returned (.bool true) ∧ Below W.heap.size W w' := by
  have hn := vx_small h
  have HX : Hid (Kx W B D ao n m ((W.alloc (.cells #[.int .i64 B.x0, .int .i64 B.y0, .int .i64 B.x1, .int .i64 B.y1, .slice ao n m] 26)).alloc (.cells #[.int .i64 D.x0, .int .i64 D.y0, .int .i64 D.x1, .int .i64 D.y1] 23))) := kx_new W B D ao n m
  obtain ⟨b0, b1, b2, b3, b4, bf⟩ := HX.out.b
  obtain ⟨r0, r1, r2, r3, rf⟩ := HX.out.d
  rcases hF : fineQ B n D rx 0 with _ | _
  · have HR := hid hF
    clear hF h hp
    go_enter Try.func8, Try.ntmps8
    go_wp2_with (first | (go_at_call 9; with_reducible refine Calls.mono (awake_any _) ?_; rintro e wc ⟨rfl, hb⟩; replace HX := hid (HX.out.below hb); clear hb; clear b0 b1 b2 b3 b4 bf r0 r1 r2 r3 rf; obtain ⟨b0, b1, b2, b3, b4, bf⟩ := HX.out.b; obtain ⟨r0, r1, r2, r3, rf⟩ := HX.out.d) | (go_at_call 10; with_reducible refine Calls.mono (fine_any B ao n m D rx 0 _ hn) ?_; rintro e wc ⟨rfl, hb⟩; rw [HR.out]; replace HX := hid (HX.out.below hb); clear hb; clear b0 b1 b2 b3 b4 bf r0 r1 r2 r3 rf; obtain ⟨b0, b1, b2, b3, b4, bf⟩ := HX.out.b; obtain ⟨r0, r1, r2, r3, rf⟩ := HX.out.d))
    go_ret
    exact ⟨rfl, HX.out.low⟩
  obtain ⟨a, b, hG⟩ := good8 hF
  have hU := bu_of h hp hG
  have hrx := hG.hrx
  obtain rfl : b = 0 := by have := hG.hry; omega
  have HR := hid hF
  clear hF hp
  subst hrx
  obtain ⟨f, hf⟩ : ∃ f, f = unimg B l := ⟨_, rfl⟩
  have e1 := hU.im
  rw [← hf] at e1
  have HU : Hid (n ≤ 5000 ∧ bufB B n = true ∧ (∀ x y, byteX (f x y)) ∧ Ok B ∧ Half D ∧ area (grow D (a : Int) 0 (a : Int) 0) ≤ 5000 ∧ a ≤ 255) := ⟨hU.n5, hU.buf, by rw [hf]; exact hU.byt, hU.ok, hU.half, hU.few, hU.a⟩
  subst e1
  have HV := hid h
  clear hU hG h hf
  go_enter Try.func8, Try.ntmps8
  go_upto_region 3 with (first | (go_at_call 9; with_reducible refine Calls.mono (awake_any _) ?_; rintro e wc ⟨rfl, hb⟩; replace HX := hid (HX.out.below hb); clear hb; clear b0 b1 b2 b3 b4 bf r0 r1 r2 r3 rf; obtain ⟨b0, b1, b2, b3, b4, bf⟩ := HX.out.b; obtain ⟨r0, r1, r2, r3, rf⟩ := HX.out.d) | (go_at_call 10; with_reducible refine Calls.mono (fine_any B ao n m D (a : Int) 0 _ hn) ?_; rintro e wc ⟨rfl, hb⟩; rw [HR.out]; replace HX := hid (HX.out.below hb); clear hb; clear b0 b1 b2 b3 b4 bf r0 r1 r2 r3 rf; obtain ⟨b0, b1, b2, b3, b4, bf⟩ := HX.out.b; obtain ⟨r0, r1, r2, r3, rf⟩ := HX.out.d))
  have HXd := hid (HX.out.below (Below.refl _ _).drew)
  obtain ⟨XA, hXA⟩ : ∃ X, X = (wc.alloc (.cells #[] 33)).drew := ⟨_, rfl⟩
  obtain ⟨XB, hXB⟩ : ∃ X, X = ((wc.alloc (.cells #[.int .i64 0, .int .i64 0, .int .i64 0, .int .i64 0, .slice none 0 0] 26)).alloc (.cells #[] 33)).drew := ⟨_, rfl⟩
  obtain ⟨XC, hXC⟩ : ∃ X, X = ((wc.alloc (.cells #[] 33)).alloc (.cells #[.int .i64 0, .int .i64 0, .int .i64 0, .int .i64 0, .slice none 0 0] 26)).drew := ⟨_, rfl⟩
  have hA0 : Below wc.heap.size wc XA := by rw [hXA]; exact ((Below.refl _ _).alloc (Nat.le_refl _) _).drew
  have hB0 : Below wc.heap.size wc XB ∧ Has5 XB wc.heap.size ⟨0, 0, 0, 0⟩ none 0 0 := by rw [hXB]; exact ⟨(((Below.refl _ _).alloc (Nat.le_refl _) _).alloc (by simp) _).drew, ((Has5.new rfl _ _ _ _ _ _ _ _).alloc _).below (Below.refl _ _).drew⟩
  have hC0 : Below wc.heap.size wc XC ∧ Has5 XC (wc.heap.size + 1) ⟨0, 0, 0, 0⟩ none 0 0 := by rw [hXC]; exact ⟨(((Below.refl _ _).alloc (Nat.le_refl _) _).alloc (by simp) _).drew, (Has5.new (by simp) _ _ _ _ _ _ _ _).below (Below.refl _ _).drew⟩
  have hn5 := HU.out.1
  obtain ⟨ga, oa, hAa⟩ := app_own (sz := 4) (B := XA.heap.size) (w := XA) (ao := some ⟨wc.heap.size, 0, none⟩) (oz_nil 4 _ _ _) (Nat.le_refl _) 24 24 24 33 _ 4 Try.underlying24 info33 rfl (.slice ao n m) n (flat (img B f)) (src_px ((HV.out.below HX.out.low).below hA0)) (by simp only [maxLen]; omega) (by omega)
  obtain ⟨gb, ob, hAb⟩ := app_own (sz := 4) (B := XB.heap.size) (w := XB) (ao := some ⟨wc.heap.size + 1, 0, none⟩) (oz_nil 4 _ _ _) (Nat.le_refl _) 24 24 24 33 _ 4 Try.underlying24 info33 rfl (.slice ao n m) n (flat (img B f)) (src_px ((HV.out.below HX.out.low).below hB0.1)) (by simp only [maxLen]; omega) (by omega)
  obtain ⟨gc, oc, hAc⟩ := app_own (sz := 4) (B := XC.heap.size) (w := XC) (ao := some ⟨wc.heap.size, 0, none⟩) (oz_nil 4 _ _ _) (Nat.le_refl _) 24 24 24 33 _ 4 Try.underlying24 info33 rfl (.slice ao n m) n (flat (img B f)) (src_px ((HV.out.below HX.out.low).below hC0.1)) (by simp only [maxLen]; omega) (by omega)
  have fA := hAa.fine
  have fB := hAb.fine
  have fC := hAc.fine
  have bA := hAa.below
  have bB := hAb.below
  have bC := hAc.below
  have oA := hAa.own
  have oB := hAb.own
  have oC := hAc.own
  rw [Nat.zero_add] at fA fB fC oA oB oC
  rw [List.nil_append] at oA oB oC
  obtain ⟨yb0, yb1, yb2, yb3, yb4, ybf⟩ := hB0.2.below bB
  obtain ⟨yc0, yc1, yc2, yc3, yc4, ycf⟩ := hC0.2.below bC
  have HOA := hid (And.intro oA (And.intro hA0 bA))
  have HOB := hid (And.intro oB (And.intro hB0 bB))
  have HOC := hid (And.intro oC (And.intro hC0 bC))
  have hSs : S5c W.heap.size B (.slice ao n m) wc := s5c_of HX.out.b
  clear hAa hAb hAc oA oB oC
  subst hXA
  subst hXB
  subst hXC
  go_cut [7] (fun v7 wx => ∃ kq qo qm qg qoff, v7 = .pointer (some ⟨kq, 0, none⟩) ∧ wc.heap.size ≤ kq ∧ Has5 wx kq B qo n qm ∧ Vx wx qo n qm qg qoff (img B f) ∧ Below wc.heap.size wc wx)
  case first =>
    clear b0 b1 b2 b3 b4 bf r0 r1 r2 r3 rf
    go_region_held3 (fun w' => w'.cell? ⟨W.heap.size, 0, none⟩ = some (.int .i64 B.x0) ∧ w'.cell? ⟨W.heap.size, 1, none⟩ = some (.int .i64 B.y0) ∧ w'.cell? ⟨W.heap.size, 2, none⟩ = some (.int .i64 B.x1) ∧ w'.cell? ⟨W.heap.size, 3, none⟩ = some (.int .i64 B.y1) ∧ w'.cell? ⟨W.heap.size, 4, none⟩ = some (.slice ao n m)) (repeat (first | with_reducible assumption | with_reducible refine s5c_drew ?_ | with_reducible refine s5c_alloc ?_ | with_reducible refine s5c_set5 ?_ (by have := HX.out.sz; omega) | with_reducible refine s5c_below ?_ ‹_›)) (fail)
    all_goals
      go_wp2_with fail
      go_meet
    case rel => exact ⟨_, _, _, ga, oa, rfl, Nat.le_trans HOA.out.2.1.size HOA.out.2.2.size, Has5.new rfl B.x0 B.y0 B.x1 B.y1 _ n _ 26, HOA.out.1.v.below ((Below.refl _ _).alloc (Nat.le_refl _) _), (Rc.via HOA.out.2.1 HOA.out.2.2).alloc (Rc.via HOA.out.2.1 HOA.out.2.2).size _⟩
    case rel => exact ⟨_, _, _, gc, oc, rfl, Nat.le_succ _, has5_set (HOC.out.2.1.2.below HOC.out.2.2) B.x0 B.y0 B.x1 B.y1 _ n _, (HOC.out.1.but (but_set5 _ _ _ _ _ _ _) (fun hc => Nat.ne_of_gt (Nat.lt_of_lt_of_le HOC.out.2.1.2.lt (HOC.out.1.new hc).1))).v, below_set5 (Rc.via HOC.out.2.1.1 HOC.out.2.2) (Nat.le_succ _) _ _ _ _ _⟩
    case rel => exact ⟨_, _, _, gb, ob, rfl, Nat.le_refl _, has5_set (HOB.out.2.1.2.below HOB.out.2.2) B.x0 B.y0 B.x1 B.y1 _ n _, (HOB.out.1.but (but_set5 _ _ _ _ _ _ _) (fun hc => Nat.ne_of_gt (Nat.lt_of_lt_of_le HOB.out.2.1.2.lt (HOB.out.1.new hc).1))).v, below_set5 (Rc.via HOB.out.2.1.1 HOB.out.2.2) (Nat.le_refl _) _ _ _ _ _⟩
  case rest =>
    obtain ⟨kq, qo, qm, qg, qoff, rfl, hkq, hQ5, hQV, hQB⟩ := hcut
    obtain ⟨w1, rfl⟩ : ∃ w1, w1 = wc := ⟨_, rfl⟩
    rename_i w0
    have HX1 := hid (HX.out.below hQB)
    have HQ := hid (And.intro hQ5 hQV)
    clear fA fB fC bA bB bC yb0 yb1 yb2 yb3 yb4 ybf yc0 yc1 yc2 yc3 yc4 ycf hA0 hB0 hC0 hSs HXd b0 b1 b2 b3 b4 bf r0 r1 r2 r3 rf HOA HOB HOC
    clear hQ5 hQV hQB hkq HX
    obtain ⟨b0, b1, b2, b3, b4, bf⟩ := HX1.out.b
    obtain ⟨r0, r1, r2, r3, rf⟩ := HX1.out.d
    obtain ⟨Z, hZ⟩ : ∃ Z, Z = orN D := ⟨_, rfl⟩
    have HZ := hid hZ.symm
    clear hZ
    go_wp2_with (go_at_call 14; with_reducible refine Calls.mono (most_a0 B ao n m g off f D a _ HU.out.2.1 HU.out.1 (HV.out.below HX1.out.low) HU.out.2.2.1 HU.out.2.2.2.2.1 HU.out.2.2.2.2.2.1 HU.out.2.2.2.2.2.2) ?_; rintro e w2 ⟨hr, hb2⟩; rw [HZ.out] at hr; obtain ⟨co, cn, cm, cg, coff, rfl, hO, hg1, hg2, hln⟩ := retG hr; have HO := hid (And.intro hO (And.intro hg1 hg2)); have HB2 := hid hb2; have hz2 := hb2.size; clear hr hO hg1 hg2 hln hb2)
    have HS0 : Hid (Ox w1.heap.size (w2.alloc (.cells #[.int .i64 Z.x0, .int .i64 Z.y0, .int .i64 Z.x1, .int .i64 Z.y1, .slice co cn cm] 26)) co cn cm cg coff (img Z (morX false (atX B f) a 0)) ∧ Has5 (w2.alloc (.cells #[.int .i64 Z.x0, .int .i64 Z.y0, .int .i64 Z.x1, .int .i64 Z.y1, .slice co cn cm] 26)) w2.heap.size Z co cn cm ∧ Below w1.heap.size w1 (w2.alloc (.cells #[.int .i64 Z.x0, .int .i64 Z.y0, .int .i64 Z.x1, .int .i64 Z.y1, .slice co cn cm] 26))) := ⟨HO.out.1.below ((Below.refl _ _).alloc (Nat.le_refl _) _), Has5.new rfl _ _ _ _ _ _ _ _, HB2.out.alloc HB2.out.size _⟩
    have hne : 0 < cm → w2.heap.size ≠ cg := fun hc => Nat.ne_of_gt (HO.out.2.2 hc)
    have HNE := hid hne
    have hcn : cn ≤ 9223372036854775807 := vx_small HO.out.1.v
    clear HO HB2 hne b0 b1 b2 b3 b4 bf r0 r1 r2 r3 rf
    generalize w2.alloc (.cells #[.int .i64 Z.x0, .int .i64 Z.y0, .int .i64 Z.x1, .int .i64 Z.y1, .slice co cn cm] 26) = W2 at HS0 ⊢
    generalize w2.heap.size = k8 at HS0 HNE hz2 ⊢
    go_loopg [9] cn (fun gh v9 wr => ∃ (i : Nat) (lst : List X), i ≤ cn ∧ gh = cn - i ∧ v9 = .int .i64 (i : Int) ∧ Ox w1.heap.size wr co cn cm cg coff lst ∧ Has5 wr k8 Z co cn cm ∧ Below w1.heap.size w1 wr)
    case atStart => exact ⟨0, _, Nat.zero_le _, rfl, rfl, HS0.out.1, HS0.out.2.1, HS0.out.2.2⟩
    case round =>
      clear HS0
      obtain ⟨i, lst, hi, rfl, rfl, hO, h5, hB⟩ := hrel
      have HS := hid (And.intro hO (And.intro h5 hB))
      obtain ⟨c0, c1, c2, c3, c4, cf⟩ := h5
      by_cases hil : i < cn
      · have hiz : (i : Int) < (cn : Int) := by omega
        have hcm : 0 < cm := by have := hO.v.le; omega
        obtain rfl := hO.v.addr hcm
        obtain ⟨u0, u1, u2, u3, e0, e1, e2, e3, f0, f1, f2, f3⟩ := ox_at4 hO hil
        have hlo := (hO.new hcm).1
        clear hO hB
        go_wp2
        go_roundg (cn - (i + 1))
        case measure => omega
        case rel =>
          have hb := but_cells cg (coff + i * 4) (flat [⟨9, 9, 9, 9⟩]) wr
          exact ⟨i + 1, _, by omega, rfl, by simp, ox_put HS.out.1 (s := i) (news := [⟨9, 9, 9, 9⟩]) (by simp; omega), HS.out.2.1.but hb (HNE.out hcm), HS.out.2.2.trans (hb.low hlo HS.out.2.2.size)⟩
      · obtain rfl : cn = i := by omega
        have hB3 := HS.out.2.2
        obtain ⟨b0, b1, b2, b3, b4, bf⟩ := has5_low HX1.out.b hB3 HX1.out.b.lt
        obtain ⟨q0, q1, q2, q3, q4, qf⟩ := has5_low HQ.out.1 hB3 HQ.out.1.lt
        have HVb : Hid (Vx wr ao n m g off (img B f)) := HV.out.below (HX1.out.low.trans (hB3.mono HX1.out.low.size))
        have HVq : Hid (Vx wr qo n qm qg qoff (img B f)) := HQ.out.2.below hB3
        have HLW : Hid (Below W.heap.size W wr) := HX1.out.low.trans (hB3.mono HX1.out.low.size)
        obtain ⟨r0, r1, r2, r3, rf⟩ := has4_low HX1.out.d hB3 HX1.out.d.lt
        have HB5a : Hid (Has5 wr W.heap.size B ao n m ∧ Has5 wr kq B qo n qm) := ⟨has5_low HX1.out.b hB3 HX1.out.b.lt, has5_low HQ.out.1 hB3 HQ.out.1.lt⟩
        clear hO hB hB3
        go_wp2_with (first
          | (go_at_call 12; with_reducible refine Calls.mono (least_a0 B ao n m g off f D a _ HU.out.2.1 HU.out.1 HVb.out HU.out.2.2.1 HU.out.2.2.2.2.1 HU.out.2.2.2.2.2.1 HU.out.2.2.2.2.2.2) ?_; rintro e w4 ⟨hr, hb4⟩; rw [HZ.out] at hr; obtain ⟨do5, dn, dm, dg, doff, rfl, -⟩ := retG hr; have HVb4 := hid (HVb.out.below hb4); have HVq4 := hid (HVq.out.below hb4); have HLW4 := hid (Rc.via HLW.out hb4); have HB4a := hid (And.intro (HB5a.out.1.below hb4) (HB5a.out.2.below hb4)); clear hr hb4 b0 b1 b2 b3 b4 bf q0 q1 q2 q3 q4 qf r0 r1 r2 r3 rf; obtain ⟨b0, b1, b2, b3, b4, bf⟩ := HB4a.out.1; obtain ⟨q0, q1, q2, q3, q4, qf⟩ := HB4a.out.2)
          | (go_at_call 11; with_reducible refine Calls.mono (same_yes B ao n m g off qo qm qg qoff _ _ HVb4.out HVq4.out) ?_; rintro e w5 ⟨rfl, hb5⟩; have HB5 := hid (Rc.via HLW4.out hb5); clear hb5))
        go_ret
        exact ⟨rfl, HB5.out⟩

theorem own : ownKnob Try.prog.godebug = none := by kernel_rfl

set_option maxRecDepth 100000 in
theorem lifted (os : Os) (started : os.Started) (H : Type) (enc : TypeId × Value → H) :
    ReturnsInHanded {} Try.checked os 8 .any (Rows.morphKeepsSpec.pre6 enc Try.prog Try.f8 Rows.morphKeepsRow.domain false) (Rows.morphKeepsSpec.post enc Try.prog Try.f8 false true false false) := by
  refine returnsInHanded_of_change (C := Try.checked) own started (by kernel_rfl) Try.func8
    (ChangeSpec.witness6 (enc := enc) (C := Try.checked) false ⟨#[], #[.agg #[.int .i64 0, .int .i64 0, .int .i64 0, .int .i64 0, .slice none 0 0], .agg #[.int .i64 0, .int .i64 0, .int .i64 0, .int .i64 0], .int .i64 0], []⟩ 8 (by kernel_rfl) (by kernel_rfl) (by kernel_rfl) (by kernel_rfl)) ?_
  intro W base args ds gs before hval0 hW hcnd _
  have hval : ∀ (j : Nat) t v, Try.f8.params[j]? = some t → args[j]? = some v → Value.okWide Try.prog W .any base t v := hval0
  have hW' := hW
  obtain ⟨p, q, hA0, hV, rfl, hfz, hnd⟩ := hW
  have hA : DataW.TrodAll enc Try.prog W 0 (fun _ => true) true Try.f8.params.toList args.toList ds p := hA0
  rw [Try.params8] at hA hval
  obtain ⟨v0, vs0, d0, ds0, p0, q0, hargs, rfl, rfl, h0, r0⟩ := trodAll_cons hA
  obtain ⟨v1, vs1, d1, ds1, p1, q1, rfl, rfl, rfl, h1, r1⟩ := trodAll_cons r0
  obtain ⟨v2, vs2, d2, ds2, p2, q2, rfl, rfl, rfl, h2, r2⟩ := trodAll_cons r1
  obtain ⟨rfl, rfl, rfl⟩ := trodAll_nil r2
  obtain rfl : args = #[v0, v1, v2] := by cases args; simp_all
  obtain ⟨rfl, rfl⟩ := trodVars_none hV
  obtain ⟨B, ao, n, c, g, off, l, rfl, hv0, hp0⟩ := open_buf (hval 0 26 v0 rfl rfl) h0
  obtain ⟨D, rfl⟩ := open_rect (hval 1 23 v1 rfl rfl) h1
  obtain ⟨rx, rfl, -, -, -⟩ := open_int Try.underlying3 (hval 2 3 v2 rfl rfl) h2
  clear hA0 hval0
  simp only [List.append_nil] at hW'
  have hlt : ∀ x ∈ p0 ++ (p1 ++ (p2)), x.block < W.heap.size := fun x hx => by simpa using hW'.lt x (by simpa using hx)
  refine (walk B ao n c g off l D rx W hv0 hp0).mono fun e W' ⟨he, hg⟩ => ?_
  subst he
  have t0 := Below.trod laidOut (by kernel_rfl) (of_decide_eq_true (by kernel_rfl)) h0 hg (fun x hx => hlt x (List.mem_append_left _ hx))
  have t1 := Below.trod laidOut (by kernel_rfl) (of_decide_eq_true (by kernel_rfl)) h1 hg (fun x hx => hlt x (List.mem_append_right _ (List.mem_append_left _ hx)))
  have t2 := Below.trod laidOut (by kernel_rfl) (of_decide_eq_true (by kernel_rfl)) h2 hg (fun x hx => hlt x (List.mem_append_right _ (List.mem_append_right _ (hx))))
  exact ⟨_, rfl, ⟨_, _, _, _, _, _, hW', (trodAll_cons_mk (shut_bool Try.underlying4 _) trodAll_mk0), (trodAll_cons_mk t0 (trodAll_cons_mk t1 (trodAll_cons_mk t2 trodAll_mk0))), rfl, hg.frame _, fun h => by cases h⟩⟩

theorem over : Rows.morphKeepsRow.holds Try.pinned (OpenSpec.ofChange Rows.morphKeepsSpec) :=
  OpenClaim.holds_of_wide 8 Try.f8 rfl rfl rfl rfl rfl rfl rfl ⟨rfl, rfl, rfl, rfl, rfl⟩ rfl rfl rfl rfl rfl (by kernel_rfl) Try.func8 (by kernel_rfl)
    (of_decide_eq_true (by kernel_rfl)) (by unfold Func.isWrapper; first | (rw [if_pos (by decide +kernel)]; kernel_rfl) | (rw [if_neg (by decide +kernel)]; exact ⟨rfl, rfl⟩))
    (fun os started H enc _ => lifted os started H enc)

theorem proved : Rows.MorphKeepsSaid := over
#print axioms proved
end Go.Proofs.Ytfkbdpbgeglgaaa.morphKeeps
