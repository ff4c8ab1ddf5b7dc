/- The fixed answers (awake): the contract. -/
import Derived.Test.YtleclkjinkbebaaCheck
namespace Go.Proofs.Ytleclkjinkbebaa
open Num Go.RowKit
set_option linter.unusedVariables false
set_option linter.unusedSimpArgs false

def blN (x : Int) (q : Nat) (ap : Option Addr) (np cp bp ob : Nat) (p : List Int) : Nv := ⟨2, some ⟨q, 0, none⟩, 1, 1, q, 0, [x], ap, np, cp, bp, ob, p⟩
/-- a filter of a Blur is answered -/
def BlG (w' : World) (e : Ending) (x : Int) (p : List Int) : Prop := ∃ ao b q ap np cp bp ob, e = .returned (.agg #[.slice ao 1 1, .int .i64 0]) ∧ Vn w' ao 1 1 b 0 [blN x q ap np cp bp ob p]
theorem blG {w' : World} {e : Ending} {x : Int} {p : List Int} (h : BlG w' e x p) : ∃ ao b q ap np cp bp ob, e = .returned (.agg #[.slice ao 1 1, .int .i64 0]) ∧ Vn w' ao 1 1 b 0 [blN x q ap np cp bp ob p] := h
theorem bl_vn {w : World} {x : Int} {ap : Option Addr} {np cp bp ob : Nat} {p : List Int} (hp : Vi w ap np cp bp ob p) :
    Vn (((w.alloc (.cells #[.slice (some ⟨w.heap.size + 1 + 1, 0, none⟩) 1 1, .int .i64 0] 24)).alloc (.cells #[.int .i64 x] 3)).alloc (.cells #[.int .i64 2, .slice (some ⟨w.heap.size + 1, 0, none⟩) 1 1, .slice ap np cp] 31)) (some ⟨w.heap.size + 1 + 1, 0, none⟩) 1 1 (w.heap.size + 1 + 1) 0 [blN x (w.heap.size + 1) ap np cp bp ob p] ∧
    Below w.heap.size w (((w.alloc (.cells #[.slice (some ⟨w.heap.size + 1 + 1, 0, none⟩) 1 1, .int .i64 0] 24)).alloc (.cells #[.int .i64 x] 3)).alloc (.cells #[.int .i64 2, .slice (some ⟨w.heap.size + 1, 0, none⟩) 1 1, .slice ap np cp] 31)) := by
  have b1 : Below w.heap.size w (w.alloc (.cells #[.slice (some ⟨w.heap.size + 1 + 1, 0, none⟩) 1 1, .int .i64 0] 24)) := (Below.refl _ _).alloc (Nat.le_refl _) _
  have z1 : (w.alloc (.cells #[.slice (some ⟨w.heap.size + 1 + 1, 0, none⟩) 1 1, .int .i64 0] 24)).heap.size = w.heap.size + 1 := by simp
  generalize (w.alloc (.cells #[.slice (some ⟨w.heap.size + 1 + 1, 0, none⟩) 1 1, .int .i64 0] 24)) = w1 at *
  have l1 := lit_new w1 x
  rw [z1] at l1
  have b2 : Below w1.heap.size w1 (w1.alloc (.cells #[.int .i64 x] 3)) := (Below.refl _ _).alloc (Nat.le_refl _) _
  have z2 : (w1.alloc (.cells #[.int .i64 x] 3)).heap.size = w.heap.size + 1 + 1 := by simp [z1]
  generalize (w1.alloc (.cells #[.int .i64 x] 3)) = w2 at *
  have hn := (oz_news (sz := 3) (lo := 0) (w := w2) (Nat.zero_le _) (flatN [blN x (w.heap.size + 1) ap np cp bp ob p]) 1 rfl (by decide) 31).v
  rw [z2] at hn
  have b3 : Below w2.heap.size w2 (w2.alloc (.cells #[.int .i64 2, .slice (some ⟨w.heap.size + 1, 0, none⟩) 1 1, .slice ap np cp] 31)) := (Below.refl _ _).alloc (Nat.le_refl _) _
  have hn' : Vz 3 (w2.alloc (.cells #[.int .i64 2, .slice (some ⟨w.heap.size + 1, 0, none⟩) 1 1, .slice ap np cp] 31)) (some ⟨w.heap.size + 1 + 1, 0, none⟩) 1 1 (w.heap.size + 1 + 1) 0 (flatN [blN x (w.heap.size + 1) ap np cp bp ob p]) := hn
  clear hn
  have l3 := l1.below b3
  have b13 := via (via b1 b2) b3
  have p3 := hp.below b13
  refine ⟨⟨hn', fun v hv => ?_, fun v hv => ?_⟩, b13⟩
  · simp only [List.mem_cons, List.not_mem_nil, or_false] at hv
    subst hv
    exact l3
  · simp only [List.mem_cons, List.not_mem_nil, or_false] at hv
    subst hv
    exact p3

set_option maxRecDepth 100000 in
set_option maxHeartbeats 1000000 in
theorem blur_any (x : Int) (ap : Option Addr) (np cp bp ob : Nat) (p : List Int) (w : World) (hp : Vi w ap np cp bp ob p) :
    Calls Try.prog 12 #[.int .i64 x, .slice ap np cp] w fun e w' => BlG w' e x p ∧ Below w.heap.size w w' := by
  have HV := hid (bl_vn (x := x) hp)
  clear hp
  go_enter Try.func12, Try.ntmps12
  go_wp2
  exact bodyPost_ret (v := .agg #[.slice (some ⟨w.heap.size + 1 + 1, 0, none⟩) 1 1, .int .i64 0]) (by simp [results, Try.results12, go_sem]) rfl ⟨⟨_, _, _, _, _, _, _, _, rfl, HV.out.1⟩, HV.out.2⟩

def ckI (x : Int) (p : List Int) : Int := checkI [blN x 0 none 0 0 0 0 p] 0
theorem ck_same (x : Int) (q : Nat) (ap : Option Addr) (np cp bp ob : Nat) (p : List Int) : checkI [blN x q ap np cp bp ob p] 0 = ckI x p := rfl
theorem lit2 (w : World) (a b : Int) : Vi (w.alloc (.cells #[.int .i64 a, .int .i64 b] 3)) (some ⟨w.heap.size, 0, none⟩) 2 2 w.heap.size 0 [a, b] := (oi_news (w := w) (lo := 0) (Nat.zero_le _) [a, b] (by simp) 3).v
theorem lit1 (w : World) (a : Int) : Vi (w.alloc (.cells #[.int .i64 a] 3)) (some ⟨w.heap.size, 0, none⟩) 1 1 w.heap.size 0 [a] := lit_new w a
/-- a filter of a Blur, above w -/
structure BlV (w w' : World) (ao : Option Addr) (x : Int) (p : List Int) : Prop where
  v : ∃ b q ap np cp bp ob, Vn w' ao 1 1 b 0 [blN x q ap np cp bp ob p]
  b : Below w.heap.size w w'
theorem blur2 {w W : World} {x a b : Int} (h : Below w.heap.size w W) : Calls Try.prog 12 #[.int .i64 x, .slice (some ⟨W.heap.size, 0, none⟩) 2 2] (W.alloc (.cells #[.int .i64 a, .int .i64 b] 3)) fun e w' => ∃ ao, e = .returned (.agg #[.slice ao 1 1, .int .i64 0]) ∧ Hid (BlV w w' ao x [a, b]) := by
  have hb0 : Below W.heap.size W (W.alloc (.cells #[.int .i64 a, .int .i64 b] 3)) := (Below.refl _ _).alloc (Nat.le_refl _) _
  refine (blur_any x _ 2 2 _ 0 [a, b] _ (lit2 W a b)).mono fun e w' ⟨hg, hb⟩ => ?_
  obtain ⟨ao, b1, q, ap, np, cp, bp, ob, rfl, hV⟩ := blG hg
  exact ⟨ao, rfl, ⟨_, _, _, _, _, _, _, hV⟩, via (via h hb0) hb⟩
theorem blur1 {w W : World} {x a : Int} (h : Below w.heap.size w W) : Calls Try.prog 12 #[.int .i64 x, .slice (some ⟨W.heap.size, 0, none⟩) 1 1] (W.alloc (.cells #[.int .i64 a] 3)) fun e w' => ∃ ao, e = .returned (.agg #[.slice ao 1 1, .int .i64 0]) ∧ Hid (BlV w w' ao x [a]) := by
  have hb0 : Below W.heap.size W (W.alloc (.cells #[.int .i64 a] 3)) := (Below.refl _ _).alloc (Nat.le_refl _) _
  refine (blur_any x _ 1 1 _ 0 [a] _ (lit1 W a)).mono fun e w' ⟨hg, hb⟩ => ?_
  obtain ⟨ao, b1, q, ap, np, cp, bp, ob, rfl, hV⟩ := blG hg
  exact ⟨ao, rfl, ⟨_, _, _, _, _, _, _, hV⟩, via (via h hb0) hb⟩
theorem few_bl (x : Int) (q : Nat) (ap : Option Addr) (np cp bp ob : Nat) (p : List Int) : Few 1 [blN x q ap np cp bp ob p] := ⟨by decide, fun v hv => by
  simp only [List.mem_cons, List.not_mem_nil, or_false] at hv
  subst hv; show 1 ≤ 1000; decide⟩
theorem check_bl {w W : World} {ao : Option Addr} {x y : Int} {p : List Int} (h : Hid (BlV w W ao x p)) (hy : ckI x p = y) : Calls Try.prog 8 #[.agg #[.slice ao 1 1, .int .i64 0]] W fun e w' => e = .returned (.int .i64 y) ∧ Hid (Below w.heap.size w w') := by
  obtain ⟨b, q, ap, np, cp, bp, ob, hV⟩ := h.out.v
  have hb := h.out.b
  refine (check_any ao 1 1 b 0 _ 0 W hV (few_bl _ _ _ _ _ _ _ _)).mono fun e w' ⟨he, hb'⟩ => ⟨?_, via hb hb'⟩
  rw [he, ck_same, hy]
theorem check_nil {w W : World} (h : Below w.heap.size w W) : Calls Try.prog 8 #[.agg #[.slice none 0 0, .int .i64 0]] W fun e w' => e = .returned (.int .i64 3) ∧ Hid (Below w.heap.size w w') :=
  (check_any none 0 0 0 0 [] 0 W (vn_nil _ _) ⟨by decide, fun v hv => by cases hv⟩).mono fun e w' ⟨he, hb'⟩ => ⟨he, via h hb'⟩
theorem ck1 : ckI (-1) [3, 3] = 0 := by decide
theorem ck2 : ckI (-1) [3, 256] = 3 := by decide
theorem ck3 : ckI (-1) [3] = 7 := by decide
theorem ck4 : ckI 5 [3, 3] = 8 := by decide
theorem ck5 : ckI 0 [3, 3] = 6 := by decide

theorem check_1 {w W : World} {ao : Option Addr} (h : Hid (BlV w W ao (-1) [3, 3])) : Calls Try.prog 8 #[.agg #[.slice ao 1 1, .int .i64 0]] W fun e w' => e = .returned (.int .i64 0) ∧ Hid (Below w.heap.size w w') := check_bl h ck1
theorem check_2 {w W : World} {ao : Option Addr} (h : Hid (BlV w W ao (-1) [3, 256])) : Calls Try.prog 8 #[.agg #[.slice ao 1 1, .int .i64 0]] W fun e w' => e = .returned (.int .i64 3) ∧ Hid (Below w.heap.size w w') := check_bl h ck2
theorem check_3 {w W : World} {ao : Option Addr} (h : Hid (BlV w W ao (-1) [3])) : Calls Try.prog 8 #[.agg #[.slice ao 1 1, .int .i64 0]] W fun e w' => e = .returned (.int .i64 7) ∧ Hid (Below w.heap.size w w') := check_bl h ck3
theorem check_4 {w W : World} {ao : Option Addr} (h : Hid (BlV w W ao 5 [3, 3])) : Calls Try.prog 8 #[.agg #[.slice ao 1 1, .int .i64 0]] W fun e w' => e = .returned (.int .i64 8) ∧ Hid (Below w.heap.size w w') := check_bl h ck4
theorem check_5 {w W : World} {ao : Option Addr} (h : Hid (BlV w W ao 0 [3, 3])) : Calls Try.prog 8 #[.agg #[.slice ao 1 1, .int .i64 0]] W fun e w' => e = .returned (.int .i64 6) ∧ Hid (Below w.heap.size w w') := check_bl h ck5
set_option maxRecDepth 100000 in
set_option maxHeartbeats 4000000 in
theorem awake_any (w : World) : Calls Try.prog 6 #[] w fun e w' => e = .returned (.bool true) ∧ Below w.heap.size w w' := by
  have HB0 := hid (Below.refl w.heap.size w)
  go_enter Try.func6, Try.ntmps6
  go_wp2_with (first
    | (go_at_call 12; with_reducible refine Calls.mono (blur2 HB0.out) ?_; rintro e w1 ⟨ao, rfl, HG0⟩; clear HB0)
    | (go_at_call 8; with_reducible refine Calls.mono (check_1 HG0) ?_; rintro e w1 ⟨rfl, HB1⟩; clear HG0)
    | (go_at_call 12; with_reducible refine Calls.mono (blur2 HB1.out) ?_; rintro e w1 ⟨ao, rfl, HG1⟩; clear HB1)
    | (go_at_call 8; with_reducible refine Calls.mono (check_2 HG1) ?_; rintro e w1 ⟨rfl, HB2⟩; clear HG1)
    | (go_at_call 12; with_reducible refine Calls.mono (blur1 HB2.out) ?_; rintro e w1 ⟨ao, rfl, HG2⟩; clear HB2)
    | (go_at_call 8; with_reducible refine Calls.mono (check_3 HG2) ?_; rintro e w1 ⟨rfl, HB3⟩; clear HG2)
    | (go_at_call 12; with_reducible refine Calls.mono (blur2 HB3.out) ?_; rintro e w1 ⟨ao, rfl, HG3⟩; clear HB3)
    | (go_at_call 8; with_reducible refine Calls.mono (check_4 HG3) ?_; rintro e w1 ⟨rfl, HB4⟩; clear HG3)
    | (go_at_call 12; with_reducible refine Calls.mono (blur2 HB4.out) ?_; rintro e w1 ⟨ao, rfl, HG4⟩; clear HB4)
    | (go_at_call 8; with_reducible refine Calls.mono (check_5 HG4) ?_; rintro e w1 ⟨rfl, HB5⟩; clear HG4)
    | (go_at_call 8; with_reducible refine Calls.mono (check_nil HB5.out) ?_; rintro e w1 ⟨rfl, HB6⟩))
  go_ret
  exact ⟨rfl, HB6.out⟩
end Go.Proofs.Ytleclkjinkbebaa
