/- Tiles: the contract of the code. -/
import Derived.Test.YtfgfgfmimejpdaaRepeat
import Derived.Test.YtfgfgfmimejpdaaMoveS
import Derived.Test.YtfgfgfmimejpdaaRMove
import Derived.Test.YtfgfgfmimejpdaaMoves1
import Derived.Test.YtfgfgfmimejpdaaWith
import Derived.Deep.LoopGhost
import Derived.Deep.Light
namespace Go.Proofs.Ytfgfgfmimejpdaa
open Num Go.RowKit
set_option linter.unusedVariables false
set_option linter.unusedSimpArgs false
attribute [local go_sem ↓] Rc.run_min_i64 Rc.run_max_i64
theorem repeat_all (lo g off n m : Nat) (L : List X) (c n0 : Nat) (w : World) (hO : Ox lo w (some ⟨g, off, none⟩) n m g off L) (hKc : n ≤ c) (hc : c ≤ maxLen) (h0 : 0 < n0) (hnK : n0 ≤ n) (hn5 : n ≤ 5000) :
    Calls Try.prog 44 #[.slice (some ⟨g, off, none⟩) n c, .int .i64 (n0 : Int)] w fun e w' => e = .returned (.tuple #[]) ∧ ∃ L', Rep L L' 0 n n0 ∧ Ox lo w' (some ⟨g, off, none⟩) n m g off L' ∧ But g w w' := by
  have := repeat_any lo g off n m L 0 n c n0 w hO (by omega) hKc hc h0 hnK hn5
  rw [Nat.zero_mul, Nat.add_zero] at this
  exact this
theorem repeat_none (ao : Option Addr) (c k : Nat) (w : World) (hk : k ≤ 5000) : Calls Try.prog 44 #[.slice ao 0 c, .int .i64 (k : Int)] w fun e w' => e = .returned (.tuple #[]) ∧ w' = w := by
  have hz : ¬ (k : Int) < ((0 : Nat) : Int) := by omega
  go_enter Try.func44, Try.ntmps44
  go_wp2
  refine wp_loop_rounds 1 ?_
  rw [rounds_succ]
  go_wp2
  refine bodyPost_end (v := .tuple #[]) (by simp [results, Try.results44, go_sem]) rfl ⟨rfl, rfl⟩

/-- .. and where an answer has no room its block is whichever comes next -/
theorem retK {lo : Nat} {w : World} {e : Ending} {B : R} {l : List X} (h : RetB lo w e B l) (hlo : lo ≤ w.heap.size) : ∃ ao n c g off, e = .returned (.agg #[.int .i64 B.x0, .int .i64 B.y0, .int .i64 B.x1, .int .i64 B.y1, .slice ao n c]) ∧ Ox lo w ao n c g off l ∧ lo ≤ g ∧ g ≤ w.heap.size ∧ (0 < c → g < w.heap.size) ∧ l.length = n := by
  obtain ⟨ao, n, c, g, off, he, hO⟩ := retB h
  have hl := vx_len hO.v
  rcases Nat.eq_zero_or_pos c with hc | hc
  · subst hc
    have h0 : n = 0 := by have := hO.v.le; omega
    subst h0
    obtain rfl : l = [] := List.length_eq_zero_iff.1 hl
    exact ⟨ao, 0, 0, w.heap.size, 0, he, ⟨⟨rfl, Nat.le_refl _, by simp, fun h => absurd h (by omega), lies_nil _ _ _⟩, fun h => absurd h (by omega), fun j h => by simp at h⟩, hlo, Nat.le_refl _, fun h => absurd h (by omega), rfl⟩
  · have := hO.new hc
    exact ⟨ao, n, c, g, off, he, hO, this.1, by omega, fun _ => this.2, hl⟩
/-- while a tile is repeated -/
structure Ts (w : World) (k3 k5 k6 k7 k10 : Nat) (B T M Fi : R) (ao : Option Addr) (n m g off : Nat) (no : Option Addr) (nn nm ng noff : Nat) (f F : Int → Int → X) (wr : World) : Prop where
  s : Has5 wr k3 B ao n m
  t : Rc.Has4 wr k5 (.int .i64 T.x0) (.int .i64 T.y0) (.int .i64 T.x1) (.int .i64 T.y1)
  z : Has5 wr k6 ⟨0, 0, 0, 0⟩ none 0 0
  h : Has5 wr k7 M no nn nm
  i : Rc.Has4 wr k10 (.int .i64 Fi.x0) (.int .i64 Fi.y0) (.int .i64 Fi.x1) (.int .i64 Fi.y1)
  o : Ox w.heap.size wr no nn nm ng noff (img M F)
  v : Vx wr ao n m g off (img B f)
  low : Below w.heap.size w wr
  lo : w.heap.size ≤ ng
  ne : (k3 ≠ ng ∧ k5 ≠ ng ∧ k6 ≠ ng ∧ k10 ≠ ng) ∧ (0 < n → g ≠ ng) ∧ (0 < nm → k7 ≠ ng)
section
variable {w : World} {k3 k5 k6 k7 k10 : Nat} {B T M Fi : R} {ao : Option Addr} {n m g off : Nat} {no : Option Addr} {nn nm ng noff : Nat} {f F : Int → Int → X} {wr wr' : World}
theorem Ts.below (h : Ts w k3 k5 k6 k7 k10 B T M Fi ao n m g off no nn nm ng noff f F wr) (hb : Below wr.heap.size wr wr') : Ts w k3 k5 k6 k7 k10 B T M Fi ao n m g off no nn nm ng noff f F wr' :=
  ⟨h.s.below hb, h.t.below hb, h.z.below hb, h.h.below hb, h.i.below hb, h.o.below hb, h.v.below hb, Rc.via h.low hb, h.lo, h.ne⟩
theorem Ts.to (h : Ts w k3 k5 k6 k7 k10 B T M Fi ao n m g off no nn nm ng noff f F wr) (hb : But ng wr wr') (h7 : Has5 wr' k7 M no nn nm) {L : List X} {F' : Int → Int → X} (ho : Ox w.heap.size wr' no nn nm ng noff L) (e : L = img M F') : Ts w k3 k5 k6 k7 k10 B T M Fi ao n m g off no nn nm ng noff f F' wr' :=
  ⟨h.s.but hb h.ne.1.1, has4_but h.t hb h.ne.1.2.1, h.z.but hb h.ne.1.2.2.1, h7, has4_but h.i hb h.ne.1.2.2.2, e ▸ ho, vz_but h.v hb (fun hc => h.ne.2.1 (by have := h.v.len; omega)), h.low.trans (hb.low h.lo h.low.size), h.lo, h.ne⟩
end
abbrev T13 (a b c : Nat) (B A r : R) (v : Value) (w' : World) : Prop := w'.cell? ⟨a, 0, none⟩ = some (.int .i64 B.x0) ∧ w'.cell? ⟨a, 1, none⟩ = some (.int .i64 B.y0) ∧ w'.cell? ⟨a, 2, none⟩ = some (.int .i64 B.x1) ∧ w'.cell? ⟨a, 3, none⟩ = some (.int .i64 B.y1) ∧ w'.cell? ⟨a, 4, none⟩ = some (v) ∧ w'.cell? ⟨b, 0, none⟩ = some (.int .i64 A.x0) ∧ w'.cell? ⟨b, 1, none⟩ = some (.int .i64 A.y0) ∧ w'.cell? ⟨b, 2, none⟩ = some (.int .i64 A.x1) ∧ w'.cell? ⟨b, 3, none⟩ = some (.int .i64 A.y1) ∧ w'.cell? ⟨c, 0, none⟩ = some (.int .i64 r.x0) ∧ w'.cell? ⟨c, 1, none⟩ = some (.int .i64 r.y0) ∧ w'.cell? ⟨c, 2, none⟩ = some (.int .i64 r.x1) ∧ w'.cell? ⟨c, 3, none⟩ = some (.int .i64 r.y1)
theorem T13_block {a b c : Nat} {B A r : R} {v : Value} {w1 w2 : World} (h : T13 a b c B A r v w1) (e0 : a < w1.heap.size → w2.heap[a]? = w1.heap[a]?) (e1 : b < w1.heap.size → w2.heap[b]? = w1.heap[b]?) (e2 : c < w1.heap.size → w2.heap[c]? = w1.heap[c]?) : T13 a b c B A r v w2 := by
  obtain ⟨c0, c1, c2, c3, c4, c5, c6, c7, c8, c9, c10, c11, c12⟩ := h
  have e0 := fun o => World.cell?_of_block (a := ⟨a, o, none⟩) (e0 (World.block_lt_of_cell? w1 ⟨a, 0, none⟩ c0))
  have e1 := fun o => World.cell?_of_block (a := ⟨b, o, none⟩) (e1 (World.block_lt_of_cell? w1 ⟨b, 0, none⟩ c5))
  have e2 := fun o => World.cell?_of_block (a := ⟨c, o, none⟩) (e2 (World.block_lt_of_cell? w1 ⟨c, 0, none⟩ c9))
  exact ⟨by rw [e0]; exact c0, by rw [e0]; exact c1, by rw [e0]; exact c2, by rw [e0]; exact c3, by rw [e0]; exact c4, by rw [e1]; exact c5, by rw [e1]; exact c6, by rw [e1]; exact c7, by rw [e1]; exact c8, by rw [e2]; exact c9, by rw [e2]; exact c10, by rw [e2]; exact c11, by rw [e2]; exact c12⟩
theorem T13_below {a b c : Nat} {B A r : R} {v : Value} {w1 w2 : World} (h : T13 a b c B A r v w1) (hb : Below w1.heap.size w1 w2) : T13 a b c B A r v w2 := T13_block h (fun l => hb.block _ l) (fun l => hb.block _ l) (fun l => hb.block _ l)
theorem T13_drew {a b c : Nat} {B A r : R} {v : Value} {w1 : World} (h : T13 a b c B A r v w1) : T13 a b c B A r v w1.drew := T13_below h (Below.refl _ _).drew
theorem T13_alloc {a b c : Nat} {B A r : R} {v : Value} {w1 : World} {o : Obj} (h : T13 a b c B A r v w1) : T13 a b c B A r v (w1.alloc o) := T13_below h ((Below.refl _ _).alloc (Nat.le_refl _) _)
theorem T13_but {a b c : Nat} {B A r : R} {v : Value} {g : Nat} {w1 w2 : World} (h : T13 a b c B A r v w1) (hb : But g w1 w2) (h0 : a ≠ g) (h1 : b ≠ g) (h2 : c ≠ g) : T13 a b c B A r v w2 := T13_block h (fun l => hb.block _ l h0) (fun l => hb.block _ l h1) (fun l => hb.block _ l h2)
theorem T13_set5 {a b c : Nat} {B A r : R} {v : Value} {j : Nat} {w1 : World} {v0 v1 v2 v3 v4 : Value} (h : T13 a b c B A r v w1) (h0 : a ≠ j) (h1 : b ≠ j) (h2 : c ≠ j) : T13 a b c B A r v (((((w1.setCell ⟨j, 0, none⟩ v0).setCell ⟨j, 1, none⟩ v1).setCell ⟨j, 2, none⟩ v2).setCell ⟨j, 3, none⟩ v3).setCell ⟨j, 4, none⟩ v4) := T13_but h (but_set5 w1 j v0 v1 v2 v3 v4) h0 h1 h2
theorem T13_set4 {a b c : Nat} {B A r : R} {v : Value} {j : Nat} {w1 : World} {v0 v1 v2 v3 : Value} (h : T13 a b c B A r v w1) (h0 : a ≠ j) (h1 : b ≠ j) (h2 : c ≠ j) : T13 a b c B A r v ((((w1.setCell ⟨j, 0, none⟩ v0).setCell ⟨j, 1, none⟩ v1).setCell ⟨j, 2, none⟩ v2).setCell ⟨j, 3, none⟩ v3) := T13_but h (but_set4 w1 j v0 v1 v2 v3) h0 h1 h2
abbrev T9 (a b : Nat) (B A : R) (v : Value) (w' : World) : Prop := w'.cell? ⟨a, 0, none⟩ = some (.int .i64 B.x0) ∧ w'.cell? ⟨a, 1, none⟩ = some (.int .i64 B.y0) ∧ w'.cell? ⟨a, 2, none⟩ = some (.int .i64 B.x1) ∧ w'.cell? ⟨a, 3, none⟩ = some (.int .i64 B.y1) ∧ w'.cell? ⟨a, 4, none⟩ = some (v) ∧ w'.cell? ⟨b, 0, none⟩ = some (.int .i64 A.x0) ∧ w'.cell? ⟨b, 1, none⟩ = some (.int .i64 A.y0) ∧ w'.cell? ⟨b, 2, none⟩ = some (.int .i64 A.x1) ∧ w'.cell? ⟨b, 3, none⟩ = some (.int .i64 A.y1)
theorem T9_block {a b : Nat} {B A : R} {v : Value} {w1 w2 : World} (h : T9 a b B A v w1) (e0 : a < w1.heap.size → w2.heap[a]? = w1.heap[a]?) (e1 : b < w1.heap.size → w2.heap[b]? = w1.heap[b]?) : T9 a b B A v w2 := by
  obtain ⟨c0, c1, c2, c3, c4, c5, c6, c7, c8⟩ := h
  have e0 := fun o => World.cell?_of_block (a := ⟨a, o, none⟩) (e0 (World.block_lt_of_cell? w1 ⟨a, 0, none⟩ c0))
  have e1 := fun o => World.cell?_of_block (a := ⟨b, o, none⟩) (e1 (World.block_lt_of_cell? w1 ⟨b, 0, none⟩ c5))
  exact ⟨by rw [e0]; exact c0, by rw [e0]; exact c1, by rw [e0]; exact c2, by rw [e0]; exact c3, by rw [e0]; exact c4, by rw [e1]; exact c5, by rw [e1]; exact c6, by rw [e1]; exact c7, by rw [e1]; exact c8⟩
theorem T9_below {a b : Nat} {B A : R} {v : Value} {w1 w2 : World} (h : T9 a b B A v w1) (hb : Below w1.heap.size w1 w2) : T9 a b B A v w2 := T9_block h (fun l => hb.block _ l) (fun l => hb.block _ l)
theorem T9_drew {a b : Nat} {B A : R} {v : Value} {w1 : World} (h : T9 a b B A v w1) : T9 a b B A v w1.drew := T9_below h (Below.refl _ _).drew
theorem T9_alloc {a b : Nat} {B A : R} {v : Value} {w1 : World} {o : Obj} (h : T9 a b B A v w1) : T9 a b B A v (w1.alloc o) := T9_below h ((Below.refl _ _).alloc (Nat.le_refl _) _)
theorem T9_but {a b : Nat} {B A : R} {v : Value} {g : Nat} {w1 w2 : World} (h : T9 a b B A v w1) (hb : But g w1 w2) (h0 : a ≠ g) (h1 : b ≠ g) : T9 a b B A v w2 := T9_block h (fun l => hb.block _ l h0) (fun l => hb.block _ l h1)
theorem T9_set5 {a b : Nat} {B A : R} {v : Value} {j : Nat} {w1 : World} {v0 v1 v2 v3 v4 : Value} (h : T9 a b B A v w1) (h0 : a ≠ j) (h1 : b ≠ j) : T9 a b B A v (((((w1.setCell ⟨j, 0, none⟩ v0).setCell ⟨j, 1, none⟩ v1).setCell ⟨j, 2, none⟩ v2).setCell ⟨j, 3, none⟩ v3).setCell ⟨j, 4, none⟩ v4) := T9_but h (but_set5 w1 j v0 v1 v2 v3 v4) h0 h1
theorem T9_set4 {a b : Nat} {B A : R} {v : Value} {j : Nat} {w1 : World} {v0 v1 v2 v3 : Value} (h : T9 a b B A v w1) (h0 : a ≠ j) (h1 : b ≠ j) : T9 a b B A v ((((w1.setCell ⟨j, 0, none⟩ v0).setCell ⟨j, 1, none⟩ v1).setCell ⟨j, 2, none⟩ v2).setCell ⟨j, 3, none⟩ v3) := T9_but h (but_set4 w1 j v0 v1 v2 v3) h0 h1

set_option maxRecDepth 100000 in
set_option maxHeartbeats 8000000 in
theorem tile_any (B : R) (ao : Option Addr) (n m g off : Nat) (f : Int → Int → X) (A T : R) (w : World) (hn : n ≤ 5000) (hb : bufB B n = true) (h : Vx w ao n m g off (img B f)) (hA : (-33554432 ≤ A.x0 ∧ A.x0 ≤ 33554432) ∧ (-33554432 ≤ A.y0 ∧ A.y0 ≤ 33554432) ∧ (-33554432 ≤ A.x1 ∧ A.x1 ≤ 33554432) ∧ (-33554432 ≤ A.y1 ∧ A.y1 ≤ 33554432)) (ha : area A ≤ 5000) (hT : (-33554432 ≤ T.x0 ∧ -33554432 ≤ T.y0) ∧ (T.x1 ≤ 33554432 ∧ T.y1 ≤ 33554432)) (eT : empB T = false) :
    Calls Try.prog 18 #[.agg #[.int .i64 B.x0, .int .i64 B.y0, .int .i64 B.x1, .int .i64 B.y1, .slice ao n m], .agg #[.int .i64 A.x0, .int .i64 A.y0, .int .i64 A.x1, .int .i64 A.y1], .agg #[.int .i64 T.x0, .int .i64 T.y0, .int .i64 T.x1, .int .i64 T.y1]] w fun e w' => RetB w.heap.size w' e (orN A) (img (orN A) (tileG T (atX B f))) ∧ Below w.heap.size w w' := by
  have hok : Ok A := by unfold Ok; omega
  obtain ⟨W0, hW0⟩ : ∃ W0, W0 = ((((w.alloc (.cells #[.int .i64 B.x0, .int .i64 B.y0, .int .i64 B.x1, .int .i64 B.y1, .slice ao n m] 26)).alloc (.cells #[.int .i64 A.x0, .int .i64 A.y0, .int .i64 A.x1, .int .i64 A.y1] 23)).alloc (.cells #[.int .i64 T.x0, .int .i64 T.y0, .int .i64 T.x1, .int .i64 T.y1] 23)).alloc (.cells #[.int .i64 0, .int .i64 0, .int .i64 0, .int .i64 0, .slice none 0 0] 26)) := ⟨_, rfl⟩
  have HA : Hid (Has5 W0 w.heap.size B ao n m ∧ Rc.Has4 W0 (w.heap.size + 1) (.int .i64 A.x0) (.int .i64 A.y0) (.int .i64 A.x1) (.int .i64 A.y1) ∧ Rc.Has4 W0 (w.heap.size + 1 + 1) (.int .i64 T.x0) (.int .i64 T.y0) (.int .i64 T.x1) (.int .i64 T.y1) ∧ Has5 W0 (w.heap.size + 1 + 1 + 1) ⟨0, 0, 0, 0⟩ none 0 0 ∧ Below w.heap.size w W0 ∧ w.heap.size + 1 + 1 + 1 < W0.heap.size) := by
    subst hW0
    exact ⟨(((Has5.new rfl _ _ _ _ _ _ _ _).alloc _).alloc _).alloc _, ((Rc.Has4.new (by simp) _ _ _ _ _).alloc _).alloc _, (Rc.Has4.new (by simp) _ _ _ _ _).alloc _, Has5.new (by simp) _ _ _ _ _ _ _ _, ((((Below.refl _ _).alloc (Nat.le_refl _) _).alloc (by simp) _).alloc (by simp; omega) _).alloc (by simp; omega) _, by simp⟩
  subst hW0
  obtain ⟨q0, q1, q2, q3, qf⟩ := HA.out.2.1
  obtain ⟨M, hM⟩ : ∃ M, M = orN A := ⟨_, rfl⟩
  have HQ := hid hM
  have HU : Hid (bufB M (wid M * hei M) = true ∧ wid M * hei M ≤ 5000 ∧ Ok M ∧ (M = nil ∨ empB M = false)) := by
    have := buf_new hok ha
    rw [hM]
    exact ⟨this.1, this.2.1, ok_orN hok, this.2.2⟩
  have hMb : (-33554432 ≤ M.x0 ∧ M.x0 ≤ 33554432) ∧ (-33554432 ≤ M.y0 ∧ M.y0 ≤ 33554432) ∧ (-33554432 ≤ M.x1 ∧ M.x1 ≤ 33554432) ∧ (-33554432 ≤ M.y1 ∧ M.y1 ≤ 33554432) := by
    rw [hM]
    rcases orN_or A with e | e <;> rw [e]
    · unfold nil; decide
    · exact hA
  have HH := hid (And.intro hok (And.intro ha (And.intro h hb)))
  have hwT := within_half hT.1.1 hT.1.2 hT.2.1 hT.2.2 eT
  have HE : Hid (empB ⟨T.x0, T.y0, T.x1, T.y1⟩ = false ∧ withinH ⟨T.x0, T.y0, T.x1, T.y1⟩ = true) := ⟨eT, hwT⟩
  obtain ⟨e1, e2⟩ := of_some eT
  obtain ⟨⟨t0, t1⟩, t2, t3⟩ := hT
  have HT : Hid (((-33554432 ≤ T.x0 ∧ -33554432 ≤ T.y0) ∧ (T.x1 ≤ 33554432 ∧ T.y1 ≤ 33554432)) ∧ empB T = false ∧ Ok ⟨T.x0, T.y0, T.x1, T.y1⟩) := ⟨⟨⟨t0, t1⟩, t2, t3⟩, eT, by unfold Ok; dsimp only; omega⟩
  rw [← hM]
  obtain ⟨⟨m0, m1⟩, ⟨m2, m3⟩, ⟨m4, m5⟩, m6, m7⟩ := hMb
  clear hM h hb hok ha hA eT hwT
  go_enter Try.func18, Try.ntmps18
  go_upto_region 2 with (go_at_call 36; with_reducible refine Calls.mono (new_any A.x0 A.y0 A.x1 A.y1 _ HH.out.1 HH.out.2.1) ?_; rintro e w1 ⟨hr, hb1⟩; rw [show orN ⟨A.x0, A.y0, A.x1, A.y1⟩ = M from HQ.out.symm] at hr; obtain ⟨no, nn, nm, ng, noff, rfl, hO, hg1, hg0, hg2, hln⟩ := retK hr hb1.size; rw [img_len] at hln; have HL := hid (And.intro hg1 (And.intro hg2 (And.intro hln hg0))); have HO1 := hid hO; have HB1 := hid hb1; have hz1 := hb1.size; clear hr hb1 hO hg1 hg2 hg0 hln q0 q1 q2 q3 qf)
  have HS1 : Hid (Has5 (w1.alloc (.cells #[.int .i64 M.x0, .int .i64 M.y0, .int .i64 M.x1, .int .i64 M.y1, .slice no nn nm] 26)) w.heap.size B ao n m ∧ Rc.Has4 (w1.alloc (.cells #[.int .i64 M.x0, .int .i64 M.y0, .int .i64 M.x1, .int .i64 M.y1, .slice no nn nm] 26)) (w.heap.size + 1 + 1) (.int .i64 T.x0) (.int .i64 T.y0) (.int .i64 T.x1) (.int .i64 T.y1) ∧ Has5 (w1.alloc (.cells #[.int .i64 M.x0, .int .i64 M.y0, .int .i64 M.x1, .int .i64 M.y1, .slice no nn nm] 26)) (w.heap.size + 1 + 1 + 1) ⟨0, 0, 0, 0⟩ none 0 0 ∧ Has5 (w1.alloc (.cells #[.int .i64 M.x0, .int .i64 M.y0, .int .i64 M.x1, .int .i64 M.y1, .slice no nn nm] 26)) w1.heap.size M no nn nm ∧ Ox w.heap.size (w1.alloc (.cells #[.int .i64 M.x0, .int .i64 M.y0, .int .i64 M.x1, .int .i64 M.y1, .slice no nn nm] 26)) no nn nm ng noff (img M fun _ _ => noX) ∧ Vx (w1.alloc (.cells #[.int .i64 M.x0, .int .i64 M.y0, .int .i64 M.x1, .int .i64 M.y1, .slice no nn nm] 26)) ao n m g off (img B f) ∧ Below w.heap.size w (w1.alloc (.cells #[.int .i64 M.x0, .int .i64 M.y0, .int .i64 M.x1, .int .i64 M.y1, .slice no nn nm] 26)) ∧ w.heap.size ≤ ng ∧ ((w.heap.size ≠ ng ∧ w.heap.size + 1 + 1 ≠ ng ∧ w.heap.size + 1 + 1 + 1 ≠ ng) ∧ (0 < n → g ≠ ng) ∧ (0 < nm → w1.heap.size ≠ ng)) ∧ (w.heap.size < w1.heap.size ∧ w.heap.size + 1 + 1 + 1 < w1.heap.size) ∧ ng ≤ w1.heap.size) := by
    have hb1 := Rc.via HA.out.2.2.2.2.1 HB1.out
    have ha1 : Below w1.heap.size w1 (w1.alloc (.cells #[.int .i64 M.x0, .int .i64 M.y0, .int .i64 M.x1, .int .i64 M.y1, .slice no nn nm] 26)) := (Below.refl _ _).alloc (Nat.le_refl _) _
    have hk := HA.out.2.2.2.2.2
    have hlo := HL.out.1
    have hgn := HL.out.2.1
    refine ⟨(HA.out.1.below HB1.out).alloc _, (HA.out.2.2.1.below HB1.out).alloc _, (HA.out.2.2.2.1.below HB1.out).alloc _, Has5.new rfl _ _ _ _ _ _ _ _, (HO1.out.below ha1).mono HA.out.2.2.2.2.1.size, HH.out.2.2.1.below (Rc.via hb1 ha1), Rc.via hb1 ha1, Nat.le_trans HA.out.2.2.2.2.1.size hlo, ⟨⟨?_, ?_, ?_⟩, fun hn0 => ?_, fun hm => ?_⟩, ⟨by omega, by omega⟩, HL.out.2.2.2⟩
    · omega
    · omega
    · omega
    · have := vx_lt HH.out.2.2.1 hn0; omega
    · have := hgn hm; omega
  clear HA HO1 HB1
  generalize w1.alloc (.cells #[.int .i64 M.x0, .int .i64 M.y0, .int .i64 M.x1, .int .i64 M.y1, .slice no nn nm] 26) = W1 at HS1 ⊢
  generalize w1.heap.size = k7 at HS1 hz1 HL ⊢
  obtain ⟨q0, q1, q2, q3, qf⟩ := HS1.out.2.1
  have hS : S4c (w.heap.size + 1 + 1) T.x0 T.y0 T.x1 T.y1 W1 := ⟨q0, q1, q2, q3⟩
  go_region_held3 (fun w' => w'.cell? ⟨w.heap.size + 1 + 1, 0, none⟩ = some (.int .i64 T.x0) ∧ w'.cell? ⟨w.heap.size + 1 + 1, 1, none⟩ = some (.int .i64 T.y0) ∧ w'.cell? ⟨w.heap.size + 1 + 1, 2, none⟩ = some (.int .i64 T.x1) ∧ w'.cell? ⟨w.heap.size + 1 + 1, 3, none⟩ = some (.int .i64 T.y1)) (repeat (first | with_reducible assumption | with_reducible refine s4c_drew ?_ | with_reducible refine s4c_below ?_ ‹_›))
    ((first
    | (go_at_call 37; with_reducible refine Calls.mono (Rc.empty_any T.x0 T.y0 T.x1 T.y1 _) ?_; rintro e w2 ⟨rfl, hb2⟩; rw [HE.out.1]; have HB2 := hid (Rc.via (Below.refl _ _).drew hb2))
    | (go_at_call 39; with_reducible refine Calls.mono (half_any _) ?_; rintro e w3 ⟨rfl, hb3⟩; have HB3 := hid (Rc.via HB2.out hb3))
    | (go_at_call 38; with_reducible refine Calls.mono (withinH_any T.x0 T.y0 T.x1 T.y1 _ HE.out.1) ?_; rintro e w4 ⟨rfl, hb4⟩; rw [HE.out.2]; have HB4 := hid (Rc.via HB3.out hb4))))
  have HS2 : Hid (Has5 w4 w.heap.size B ao n m ∧ Rc.Has4 w4 (w.heap.size + 1 + 1) (.int .i64 T.x0) (.int .i64 T.y0) (.int .i64 T.x1) (.int .i64 T.y1) ∧ Has5 w4 (w.heap.size + 1 + 1 + 1) ⟨0, 0, 0, 0⟩ none 0 0 ∧ Has5 w4 k7 M no nn nm ∧ Ox w.heap.size w4 no nn nm ng noff (img M fun _ _ => noX) ∧ Vx w4 ao n m g off (img B f) ∧ Below w.heap.size w w4) := ⟨HS1.out.1.below HB4.out, HS1.out.2.1.below HB4.out, HS1.out.2.2.1.below HB4.out, HS1.out.2.2.2.1.below HB4.out, HS1.out.2.2.2.2.1.below HB4.out, HS1.out.2.2.2.2.2.1.below HB4.out, Rc.via HS1.out.2.2.2.2.2.2.1 HB4.out⟩
  have HZ1 : Hid (W1.heap.size ≤ w4.heap.size ∧ k7 < W1.heap.size) := ⟨HB4.out.size, HS1.out.2.2.2.1.lt⟩
  have HNE := hid HS1.out.2.2.2.2.2.2.2
  clear HB2 HB3 HB4 HS1 q0 q1 q2 q3 qf hS
  obtain ⟨q0, q1, q2, q3, qf⟩ := HS2.out.2.1
  obtain ⟨Fi, hFi⟩ : ∃ Fi, Fi = firstR M T := ⟨_, rfl⟩
  have HFI := hid hFi
  have f0 : M.x0 = Fi.x0 := by rw [hFi]; rfl
  have f1 : M.y0 = Fi.y0 := by rw [hFi]; rfl
  have f2 : mn M.x1 (M.x0 + (T.x1 - T.x0)) = Fi.x1 := by rw [hFi]; rfl
  have f3 : mn M.y1 (M.y0 + (T.y1 - T.y0)) = Fi.y1 := by rw [hFi]; rfl
  have hfb : (-33554432 ≤ Fi.x0 ∧ Fi.x0 ≤ 33554432) ∧ (-33554432 ≤ Fi.y0 ∧ Fi.y0 ≤ 33554432) ∧ (-33554432 ≤ Fi.x1 ∧ Fi.x1 ≤ 33554432) ∧ (-33554432 ≤ Fi.y1 ∧ Fi.y1 ≤ 33554432) := by
    rw [← f0, ← f1, ← f2, ← f3]
    unfold mn
    omega
  obtain ⟨⟨b0, b1⟩, ⟨b2, b3⟩, ⟨b4, b5⟩, b6, b7⟩ := hfb
  have HF4 := hid (And.intro f0 (And.intro f1 (And.intro f2 f3)))
  clear hFi f0 f1
  go_wp2
  go_quiet (fail)
  have hd := below_drewN (Below.refl w4.heap.size w4) nq
  replace HS2 := hid (And.intro (HS2.out.1.below hd) (And.intro (HS2.out.2.1.below hd) (And.intro (HS2.out.2.2.1.below hd) (And.intro (HS2.out.2.2.2.1.below hd) (And.intro (HS2.out.2.2.2.2.1.below hd) (And.intro (HS2.out.2.2.2.2.2.1.below hd) (Rc.via HS2.out.2.2.2.2.2.2 hd)))))))
  replace HZ1 : Hid (W1.heap.size ≤ (w4.drewN nq).heap.size ∧ k7 < W1.heap.size) := HZ1.out
  clear hd q0 q1 q2 q3 qf hb4
  generalize w4.drewN nq = w5 at HS2 HZ1 ⊢
  obtain ⟨q0, q1, q2, q3, qf⟩ := HS2.out.2.1
  obtain ⟨h0, h1, h2, h3, h4, hf⟩ := HS2.out.2.2.2.1
  have HSZ : Hid ((0 < T.x1 - T.x0 ∧ T.x1 - T.x0 ≤ 1099511627776) ∧ (0 < T.y1 - T.y0 ∧ T.y1 - T.y0 ≤ 1099511627776)) := by show (_ ∧ _) ∧ (_ ∧ _); omega
  have HAY : Hid ((-268435456 ≤ M.y0 ∧ M.y0 ≤ 268435456) ∧ (-268435456 ≤ T.y0 ∧ T.y0 ≤ 268435456) ∧ (-268435456 ≤ M.x0 ∧ M.x0 ≤ 268435456) ∧ (-268435456 ≤ T.x0 ∧ T.x0 ≤ 268435456)) := by show (_ ∧ _) ∧ (_ ∧ _) ∧ (_ ∧ _) ∧ (_ ∧ _); omega
  obtain ⟨dy0, hdy0⟩ : ∃ d, d = awayI M.y0 T.y0 (T.y1 - T.y0) := ⟨_, rfl⟩
  have HDY := hid hdy0.symm
  clear hdy0
  have hl5 : w.heap.size + 1 + 1 < w5.heap.size := HS2.out.2.1.lt
  have hl7 : k7 < w5.heap.size := HS2.out.2.2.2.1.lt
  go_wp2_with (go_at_call 40; with_reducible refine Calls.mono (away_any M.y0 T.y0 (T.y1 - T.y0) _ HSZ.out.2 HAY.out.1 HAY.out.2.1) ?_; rintro e w6 ⟨rfl, hw6⟩; replace hw6 := hw6.symm; subst hw6; rw [HDY.out])
  have HTS : Hid (Ts w w.heap.size (w.heap.size + 1 + 1) (w.heap.size + 1 + 1 + 1) k7 w5.heap.size B T M Fi ao n m g off no nn nm ng noff f (stO Fi T (atX B f) (T.y0 + dy0)) (w5.alloc (.cells #[.int .i64 M.x0, .int .i64 M.y0, .int .i64 Fi.x1, .int .i64 Fi.y1] 23))) := by
    have hal : Below w5.heap.size w5 (w5.alloc (.cells #[.int .i64 M.x0, .int .i64 M.y0, .int .i64 Fi.x1, .int .i64 Fi.y1] 23)) := (Below.refl _ _).alloc (Nat.le_refl _) _
    have hfi : Rc.Has4 (w5.alloc (.cells #[.int .i64 M.x0, .int .i64 M.y0, .int .i64 Fi.x1, .int .i64 Fi.y1] 23)) w5.heap.size (.int .i64 Fi.x0) (.int .i64 Fi.y0) (.int .i64 Fi.x1) (.int .i64 Fi.y1) := by
      have := Rc.Has4.new (W := w5) (k := w5.heap.size) rfl (.int .i64 M.x0) (.int .i64 M.y0) (.int .i64 Fi.x1) (.int .i64 Fi.y1) 23
      rw [HF4.out.1, HF4.out.2.1] at this ⊢
      exact this
    have hst : stO Fi T (atX B f) (T.y0 + dy0) = fun _ _ => noX := st_first (by rw [← HF4.out.2.1, ← HDY.out]; exact (away_bd HSZ.out.2.1).1)
    rw [hst]
    refine ⟨HS2.out.1.below hal, HS2.out.2.1.below hal, HS2.out.2.2.1.below hal, HS2.out.2.2.2.1.below hal, hfi, HS2.out.2.2.2.2.1.below hal, HS2.out.2.2.2.2.2.1.below hal, Rc.via HS2.out.2.2.2.2.2.2 hal, HNE.out.1, ⟨⟨HNE.out.2.1.1.1, HNE.out.2.1.1.2.1, HNE.out.2.1.1.2.2, ?_⟩, HNE.out.2.1.2.1, HNE.out.2.1.2.2⟩⟩
    have h1 := HNE.out.2.2.2
    have h2 := HZ1.out
    omega
  have HNN : Hid (nn ≤ 5000 ∧ bufB M nn = true ∧ nn = wid M * hei M) := by
    have h1 := HL.out.2.2.1
    rw [← h1]
    exact ⟨HU.out.2.1, HU.out.1, rfl⟩
  have HK : Hid (w.heap.size < k7 ∧ w.heap.size + 1 + 1 + 1 < k7 ∧ k7 < w5.heap.size) := ⟨HNE.out.2.2.1.1, HNE.out.2.2.1.2, hl7⟩
  have HD0 : Hid ((T.y1 - T.y0) ∣ dy0 ∧ -134217728 ≤ dy0 ∧ dy0 ≤ 134217728) := by
    have h1 := away_bd (n := M.y0) (a := T.y0) HSZ.out.2.1
    have h2 := away_dvd M.y0 T.y0 (T.y1 - T.y0)
    rw [HDY.out] at h1 h2
    exact ⟨h2, by omega, by omega⟩
  clear HS2 HZ1 HNE q0 q1 q2 q3 qf h0 h1 h2 h3 h4 hf hl5 hl7
  generalize w5.alloc (.cells #[.int .i64 M.x0, .int .i64 M.y0, .int .i64 Fi.x1, .int .i64 Fi.y1] 23) = w6 at HTS ⊢
  generalize w5.heap.size = k10 at HTS HK ⊢
  clear f2 f3
  go_loopg [11] (Fi.y1 - T.y0 - dy0).toNat (fun gh v11 wr => ∃ dy, (T.y1 - T.y0) ∣ dy ∧ -134217728 ≤ dy ∧ dy ≤ 134217728 ∧ gh = (Fi.y1 - T.y0 - dy).toNat ∧ v11 = .int .i64 dy ∧ Ts w w.heap.size (w.heap.size + 1 + 1) (w.heap.size + 1 + 1 + 1) k7 k10 B T M Fi ao n m g off no nn nm ng noff f (stO Fi T (atX B f) (T.y0 + dy)) wr)
  case atStart => exact ⟨dy0, HD0.out.1, HD0.out.2.1, HD0.out.2.2, rfl, rfl, HTS.out⟩
  case round =>
    clear HTS
    obtain ⟨dy, hdv, hd0, hd1, rfl, rfl, hTS⟩ := hrel
    have HDV := hid hdv
    have HX := hid hTS
    obtain ⟨q0, q1, q2, q3, qf⟩ := hTS.t
    obtain ⟨p0, p1, p2, p3, pf⟩ := hTS.i
    clear hTS hdv
    by_cases hlt : T.y0 + dy < Fi.y1
    · obtain ⟨dx0, hdx0⟩ : ∃ d, d = awayI Fi.x0 T.x0 (T.x1 - T.x0) := ⟨_, rfl⟩
      have HDX := hid hdx0.symm
      have HAX : Hid ((-268435456 ≤ Fi.x0 ∧ Fi.x0 ≤ 268435456) ∧ (-268435456 ≤ T.x0 ∧ T.x0 ≤ 268435456)) := by rw [← HF4.out.1]; exact HAY.out.2.2
      have hdy1 : dy + (T.y1 - T.y0) ≤ 134217728 := by omega
      clear hdx0
      go_wp2_with (go_at_call 40; with_reducible refine Calls.mono (away_any Fi.x0 T.x0 (T.x1 - T.x0) _ HSZ.out.1 HAX.out.1 HAX.out.2) ?_; rintro e w7 ⟨rfl, hw7⟩; replace hw7 := hw7.symm; subst hw7; rw [HDX.out])
      go_loopg [12] (Fi.x1 - T.x0 - dx0).toNat (fun gh v12 wr => ∃ dx, (T.x1 - T.x0) ∣ dx ∧ -134217728 ≤ dx ∧ dx ≤ 134217728 ∧ gh = (Fi.x1 - T.x0 - dx).toNat ∧ v12 = .int .i64 dx ∧ Ts w w.heap.size (w.heap.size + 1 + 1) (w.heap.size + 1 + 1 + 1) k7 k10 B T M Fi ao n m g off no nn nm ng noff f (stG Fi T (atX B f) (T.x0 + dx) (T.y0 + dy) (T.y1 + dy)) wr)
      case atStart =>
        have h1 := away_bd (n := Fi.x0) (a := T.x0) HSZ.out.1.1
        have h2 := away_dvd Fi.x0 T.x0 (T.x1 - T.x0)
        have h3 := HF4.out.1
        rw [HDX.out] at h1 h2
        exact ⟨dx0, h2, by omega, by omega, rfl, rfl, by rw [st_row h1.1]; exact HX.out⟩
      case round =>
        clear HX q0 q1 q2 q3 qf p0 p1 p2 p3 pf
        obtain ⟨dx, hdvx, hdx0, hdx1, rfl, rfl, hTS⟩ := hrel
        have HDVX := hid hdvx
        have HX := hid hTS
        obtain ⟨q0, q1, q2, q3, qf⟩ := hTS.t
        obtain ⟨p0, p1, p2, p3, pf⟩ := hTS.i
        clear hTS hdvx
        by_cases hltx : T.x0 + dx < Fi.x1
        · have hdx2 : dx + (T.x1 - T.x0) ≤ 134217728 := by omega
          have HMV : Hid ((-4398046511104 ≤ dx ∧ dx ≤ 4398046511104) ∧ (-4398046511104 ≤ dy ∧ dy ≤ 4398046511104)) := by show (_ ∧ _) ∧ (_ ∧ _); omega
          obtain ⟨mv, hmv⟩ : ∃ r, r = moveR ⟨T.x0, T.y0, T.x1, T.y1⟩ dx dy := ⟨_, rfl⟩
          obtain ⟨mt, hmt⟩ : ∃ r, r = meet ⟨Fi.x0, Fi.y0, Fi.x1, Fi.y1⟩ ⟨mv.x0, mv.y0, mv.x1, mv.y1⟩ := ⟨_, rfl⟩
          have HMR := hid hmv.symm
          have HMT := hid hmt.symm
          have HST : Hid (copyG ⟨mt.x0, mt.y0, mt.x1, mt.y1⟩ (atX B f) dx dy (stG Fi T (atX B f) (T.x0 + dx) (T.y0 + dy) (T.y1 + dy)) = stG Fi T (atX B f) (T.x0 + (dx + (T.x1 - T.x0))) (T.y0 + dy) (T.y1 + dy)) := by
            have e : (⟨mt.x0, mt.y0, mt.x1, mt.y1⟩ : R) = meet Fi (moveR T dx dy) := by rw [← HMT.out, ← HMR.out]
            show copyG ⟨mt.x0, mt.y0, mt.x1, mt.y1⟩ (atX B f) dx dy _ = _
            rw [e, st_step HT.out.1.1.1 HT.out.1.1.2 HT.out.1.2.1 HT.out.1.2.2 HT.out.2.1 (by omega) (by omega) HDVX.out HDV.out]
            congr 1
            omega
          clear hmv hmt
          have hS : T13 w.heap.size k10 (w.heap.size + 1 + 1) B Fi T (.slice ao n m) wr := ⟨HX.out.s.c0, HX.out.s.c1, HX.out.s.c2, HX.out.s.c3, HX.out.s.c4, p0, p1, p2, p3, q0, q1, q2, q3⟩
          go_wp2
          clear p0 p1 p2 p3 pf q0 q1 q2 q3 qf
          go_region_held3 (fun w' => w'.cell? ⟨w.heap.size, 0, none⟩ = some (.int .i64 B.x0) ∧ w'.cell? ⟨w.heap.size, 1, none⟩ = some (.int .i64 B.y0) ∧ w'.cell? ⟨w.heap.size, 2, none⟩ = some (.int .i64 B.x1) ∧ w'.cell? ⟨w.heap.size, 3, none⟩ = some (.int .i64 B.y1) ∧ w'.cell? ⟨w.heap.size, 4, none⟩ = some (.slice ao n m) ∧ w'.cell? ⟨k10, 0, none⟩ = some (.int .i64 Fi.x0) ∧ w'.cell? ⟨k10, 1, none⟩ = some (.int .i64 Fi.y0) ∧ w'.cell? ⟨k10, 2, none⟩ = some (.int .i64 Fi.x1) ∧ w'.cell? ⟨k10, 3, none⟩ = some (.int .i64 Fi.y1) ∧ w'.cell? ⟨(w.heap.size + 1 + 1), 0, none⟩ = some (.int .i64 T.x0) ∧ w'.cell? ⟨(w.heap.size + 1 + 1), 1, none⟩ = some (.int .i64 T.y0) ∧ w'.cell? ⟨(w.heap.size + 1 + 1), 2, none⟩ = some (.int .i64 T.x1) ∧ w'.cell? ⟨(w.heap.size + 1 + 1), 3, none⟩ = some (.int .i64 T.y1)) (repeat (first | with_reducible assumption | with_reducible refine T13_drew ?_ | with_reducible refine T13_alloc ?_ | with_reducible refine T13_set5 ?_ (by omega) (by omega) (by omega) | with_reducible refine T13_set4 ?_ (by omega) (by omega) (by omega) | with_reducible refine T13_below ?_ ‹_›))
            ((first
            | (go_at_call 43; with_reducible refine Calls.mono (Rc.move_any T.x0 T.y0 T.x1 T.y1 dx dy _ HT.out.2.2 HMV.out.1 HMV.out.2) ?_; rintro e w2 ⟨rfl, hb2⟩; rw [HMR.out]; have HX2 := hid (HX.out.below (Rc.via (Below.refl _ _).drew hb2)))
            | (go_at_call 42; with_reducible refine Calls.mono (Rc.meet_any Fi.x0 Fi.y0 Fi.x1 Fi.y1 mv.x0 mv.y0 mv.x1 mv.y1 _) ?_; rintro e w3 ⟨rfl, hb3⟩; rw [HMT.out]; have HX3 := hid (HX2.out.below hb3))
            | (go_at_call 41; with_reducible refine Calls.mono (copy_any w.heap.size k7 ng noff nn nm no M _ B ao n m g off f mt.x0 mt.y0 mt.x1 mt.y1 dx dy _ HNN.out.1 HNN.out.2.1 HX3.out.h HX3.out.o HX3.out.ne.2.2 hn HH.out.2.2.2 HX3.out.v (fun _ => HX3.out.ne.2.1) HMV.out.1 HMV.out.2) ?_; rintro e w4 ⟨rfl, h7, hO, hbu⟩; rw [HST.out] at hO; have HX4 := hid (HX3.out.to hbu h7 hO rfl); clear h7 hO hbu; have hS4 : T13 w.heap.size k10 (w.heap.size + 1 + 1) B Fi T (.slice ao n m) w4 := ⟨HX4.out.s.c0, HX4.out.s.c1, HX4.out.s.c2, HX4.out.s.c3, HX4.out.s.c4, HX4.out.i.c0, HX4.out.i.c1, HX4.out.i.c2, HX4.out.i.c3, HX4.out.t.c0, HX4.out.t.c1, HX4.out.t.c2, HX4.out.t.c3⟩)))
          go_wp2
          go_roundg (Fi.x1 - T.x0 - (dx + (T.x1 - T.x0))).toNat
          case measure => omega
          case rel => exact ⟨dx + (T.x1 - T.x0), dvd_more HDVX.out, by omega, hdx2, rfl, rfl, HX4.out⟩
        · have hst : stG Fi T (atX B f) (T.x0 + dx) (T.y0 + dy) (T.y1 + dy) = stO Fi T (atX B f) (T.y0 + (dy + (T.y1 - T.y0))) := by
            rw [st_end (by omega) (by omega)]
            congr 1
            omega
          have HX2 := HX.out
          rw [hst] at HX2
          have HX3 := hid HX2
          clear hst HX2 HX
          go_wp2
          go_roundg (Fi.y1 - T.y0 - (dy + (T.y1 - T.y0))).toNat
          case measure => omega
          case rel => exact ⟨dy + (T.y1 - T.y0), dvd_more HDV.out, by omega, hdy1, rfl, rfl, HX3.out⟩
    · have hM01 : M.x0 ≤ M.x1 ∧ M.y0 ≤ M.y1 := by
        rcases HU.out.2.2.2 with e | e
        · rw [e]; unfold nil; decide
        · have := of_some e; omega
      have hF01 : Fi.y0 ≤ Fi.y1 := by
        have h1 := HF4.out.2.1
        have h2 := HF4.out.2.2.2
        unfold mn at h2
        omega
      have hst : stO Fi T (atX B f) (T.y0 + dy) = rowsT Fi T (atX B f) Fi.y0 := by
        rw [st_all (by omega), HFI.out]
        exact rows_start.symm
      have HX2 := HX.out
      rw [hst] at HX2
      have HX3 := hid HX2
      clear hst HX2 HX
      go_wp2
      go_loopg [13] (Fi.y1 - Fi.y0).toNat (fun gh v13 wr => ∃ y, Fi.y0 ≤ y ∧ y ≤ Fi.y1 ∧ gh = (Fi.y1 - y).toNat ∧ v13 = .int .i64 y ∧ Ts w w.heap.size (w.heap.size + 1 + 1) (w.heap.size + 1 + 1 + 1) k7 k10 B T M Fi ao n m g off no nn nm ng noff f (rowsT Fi T (atX B f) y) wr)
      case atStart => exact ⟨Fi.y0, Int.le_refl _, hF01, rfl, rfl, HX3.out⟩
      case round =>
        clear HX3 q0 q1 q2 q3 qf p0 p1 p2 p3 pf
        obtain ⟨y, hy0, hy1, rfl, rfl, hTS⟩ := hrel
        have HX := hid hTS
        obtain ⟨p0, p1, p2, p3, pf⟩ := hTS.i
        obtain ⟨r0, r1, r2, r3, r4, rf⟩ := hTS.h
        clear hTS
        by_cases hlty : y < Fi.y1
        · have eM : empB M = false := by
            rcases HU.out.2.2.2 with e | e
            · have h1 := HF4.out.2.1
              have h2 := HF4.out.2.2.2
              rw [e] at h1 h2
              unfold nil at h1 h2
              unfold mn at h2
              dsimp only at h1 h2
              omega
            · exact e
          obtain ⟨x01, y01⟩ := of_some eM
          obtain ⟨n0, hn0⟩ : ∃ k : Nat, (k : Int) = Fi.x1 - Fi.x0 := ⟨(Fi.x1 - Fi.x0).toNat, by have h1 := HF4.out.1; have h2 := HF4.out.2.2.1; unfold mn at h2; omega⟩
          have hn0b : 0 < n0 ∧ n0 ≤ (M.x1 - M.x0).toNat := by have h1 := HF4.out.1; have h2 := HF4.out.2.2.1; unfold mn at h2; omega
          have en0 : IntKind.i64.wrap (Fi.x1 - Fi.x0) = (n0 : Int) := by rw [IntKind.wrap_i64]; omega
          have hyM : M.y0 ≤ y ∧ y < M.y1 := by have h1 := HF4.out.2.1; have h2 := HF4.out.2.2.2; unfold mn at h2; omega
          have HRW : Hid (∀ L', Rep (img M (rowsT Fi T (atX B f) y)) L' (posN M M.x0 y) (M.x1 - M.x0).toNat n0 → L' = img M (rowsT Fi T (atX B f) (y + 1))) := by
            intro L' hR
            have hx := HF4.out.1
            rw [rep_row hyM hn0b.1 hn0b.2 hR, HFI.out, ← rows_step eM HT.out.2.1 ⟨hyM.1, by rw [← HFI.out]; exact hlty⟩, hn0, ← hx, HFI.out]
          have hI : In M M.x0 M.x1 y := ⟨hyM.1, hyM.2, Int.le_refl _, by omega, Int.le_refl _⟩
          have hpe := pos_end hyM (Int.le_refl M.x0) (by omega : M.x0 ≤ M.x1) (Int.le_refl _)
          have hnnm := HX.out.o.v.le
          have hnmx := HX.out.o.v.max
          have hnw := HNN.out.2.2
          rw [← hnw] at hpe
          have hm0 : 0 < nm := by omega
          have HI := hid (And.intro hI (And.intro x01 (And.intro hnnm (And.intro hnmx (And.intro hnw hm0)))))
          have HR1 := hid (And.intro hpe (And.intro hn0b (show (M.x1 - M.x0).toNat ≤ nm - posN M M.x0 y ∧ nm - posN M M.x0 y ≤ maxLen by omega)))
          obtain rfl := HX.out.o.v.addr hm0
          have hS : T9 k7 k10 M Fi (.slice (some ⟨ng, noff, none⟩) nn nm) wr := ⟨r0, r1, r2, r3, r4, p0, p1, p2, p3⟩
          clear hI hpe hnnm hnmx hnw hn0
          go_wp2
          clear p0 p1 p2 p3 pf r0 r1 r2 r3 r4 rf
          go_region_held3 (fun w' => w'.cell? ⟨k7, 0, none⟩ = some (.int .i64 M.x0) ∧ w'.cell? ⟨k7, 1, none⟩ = some (.int .i64 M.y0) ∧ w'.cell? ⟨k7, 2, none⟩ = some (.int .i64 M.x1) ∧ w'.cell? ⟨k7, 3, none⟩ = some (.int .i64 M.y1) ∧ w'.cell? ⟨k7, 4, none⟩ = some (.slice (some ⟨ng, noff, none⟩) nn nm) ∧ w'.cell? ⟨k10, 0, none⟩ = some (.int .i64 Fi.x0) ∧ w'.cell? ⟨k10, 1, none⟩ = some (.int .i64 Fi.y0) ∧ w'.cell? ⟨k10, 2, none⟩ = some (.int .i64 Fi.x1) ∧ w'.cell? ⟨k10, 3, none⟩ = some (.int .i64 Fi.y1)) (repeat (first | with_reducible assumption | with_reducible refine T9_drew ?_ | with_reducible refine T9_alloc ?_ | with_reducible refine T9_set5 ?_ (by omega) (by omega) | with_reducible refine T9_set4 ?_ (by omega) (by omega) | with_reducible refine T9_below ?_ ‹_›))
            ((first
            | (go_at_call 45; with_reducible refine Calls.mono (mrow_of M ng noff nn nm M.x0 M.x1 y _ HU.out.2.2.1 HI.out.2.2.2.2.1 HNN.out.1 HI.out.2.2.1 HI.out.2.2.2.1 HI.out.1 HI.out.2.1) ?_; rintro e w2 ⟨rfl, hb2⟩; have HX2 := hid (HX.out.below (Rc.via (Below.refl _ _).drew hb2)))
            | (go_at_call 44; with_reducible refine Calls.mono (repeat_any w.heap.size ng noff nn nm _ (posN M M.x0 y) (M.x1 - M.x0).toNat (nm - posN M M.x0 y) n0 _ HX2.out.o HR1.out.1 HR1.out.2.2.1 HR1.out.2.2.2 HR1.out.2.1.1 HR1.out.2.1.2 HNN.out.1) ?_; rintro e w3 ⟨rfl, L', hRep, hO, hbu⟩; have HX3 := hid (HX2.out.to hbu (HX2.out.h.but hbu (HX2.out.ne.2.2 HI.out.2.2.2.2.2)) hO (HRW.out L' hRep)); clear hRep hO hbu; have hS3 : T9 k7 k10 M Fi (.slice (some ⟨ng, noff, none⟩) nn nm) w3 := ⟨HX3.out.h.c0, HX3.out.h.c1, HX3.out.h.c2, HX3.out.h.c3, HX3.out.h.c4, HX3.out.i.c0, HX3.out.i.c1, HX3.out.i.c2, HX3.out.i.c3⟩)))
          go_wp2
          go_roundg (Fi.y1 - (y + 1)).toNat
          case measure => omega
          case rel => exact ⟨y + 1, by omega, by omega, rfl, rfl, HX3.out⟩
        · obtain rfl : y = Fi.y1 := by omega
          obtain ⟨h0, hh0⟩ : ∃ k : Nat, (k : Int) = Fi.y1 - Fi.y0 := ⟨(Fi.y1 - Fi.y0).toNat, by omega⟩
          have hmul : (Fi.y1 - Fi.y0) * (M.x1 - M.x0) = ((h0 * wid M : Nat) : Int) := by
            rw [← hh0, Int.natCast_mul]
            congr 1
            unfold wid
            omega
          have hh1 : h0 ≤ hei M := by have h1 := HF4.out.2.1; have h2 := HF4.out.2.2.2; unfold mn at h2; unfold hei; omega
          have hk5 : h0 * wid M ≤ 5000 := by
            have := Nat.mul_le_mul_right (wid M) hh1
            have h2 := HU.out.2.1
            rw [Nat.mul_comm (wid M)] at h2
            omega
          obtain ⟨k0, hk0⟩ : ∃ k, k = h0 * wid M := ⟨_, rfl⟩
          rw [← hk0] at hmul hk5
          have HK0 := hid (And.intro hk0 (And.intro hh0 hh1))
          have hk5i : (k0 : Int) ≤ 5000 := by omega
          clear hk0 hh0 hh1
          have hM0 := HU.out.2.2.2
          rcases eM : empB M with _ | _
          · obtain ⟨x01, y01⟩ := of_some eM
            have hF1 : M.y0 < Fi.y1 := by have h1 := HF4.out.2.1; have h2 := HF4.out.2.2.2; unfold mn at h2; omega
            have hwpos : 0 < wid M := by unfold wid; omega
            have hk1 : 0 < k0 ∧ k0 ≤ nn := by
              have h1 := HK0.out.2.1
              have h2 := HF4.out.2.1
              have h3 : 0 < h0 := by omega
              rw [HK0.out.1, HNN.out.2.2]
              exact ⟨Nat.mul_pos h3 hwpos, by rw [Nat.mul_comm (wid M)]; exact Nat.mul_le_mul_right _ HK0.out.2.2⟩
            have hnnm := HX.out.o.v.le
            have hm0 : 0 < nm := by omega
            have HRA : Hid (∀ L', Rep (img M (rowsT Fi T (atX B f) Fi.y1)) L' 0 nn k0 → L' = img M (tileG T (atX B f))) := by
              intro L' hR
              have h1 := HK0.out.2.1
              have h2 := HF4.out.2.1
              rw [HNN.out.2.2, HK0.out.1] at hR
              rw [rep_all (by omega) HK0.out.2.2 hR, h1, ← h2, HFI.out, rows_end eM HT.out.2.1]
            have HI := hid (And.intro hk1 (And.intro HX.out.o.v.max (And.intro hnnm hm0)))
            obtain rfl := HX.out.o.v.addr hm0
            clear hk1 hnnm
            go_wp2_with (go_at_call 44; with_reducible refine Calls.mono (repeat_all w.heap.size ng noff nn nm _ nm k0 _ HX.out.o HI.out.2.2.1 HI.out.2.1 HI.out.1.1 HI.out.1.2 HNN.out.1) ?_; rintro e w2 ⟨rfl, L', hRep, hO, hbu⟩; have HX3 := hid (HX.out.to hbu (HX.out.h.but hbu (HX.out.ne.2.2 HI.out.2.2.2)) hO (HRA.out L' hRep)); clear hRep hO hbu p0 p1 p2 p3 pf r0 r1 r2 r3 r4 rf; obtain ⟨r0, r1, r2, r3, r4, rf⟩ := HX3.out.h; obtain ⟨z0, z1, z2, z3, z4, zf⟩ := HX3.out.z)
            obtain ⟨s0, s1, s2, s3, s4⟩ := set5 z0 z1 z2 z3 z4 (.int .i64 M.x0) (.int .i64 M.y0) (.int .i64 M.x1) (.int .i64 M.y1) (.slice (some ⟨ng, noff, none⟩) nn nm)
            refine bodyPost_ret (v := .agg #[.int .i64 M.x0, .int .i64 M.y0, .int .i64 M.x1, .int .i64 M.y1, .slice (some ⟨ng, noff, none⟩) nn nm]) (by simp [results, Try.results18, go_sem, s0, s1, s2, s3, s4]) rfl ⟨⟨_, _, _, ng, noff, rfl, ?_⟩, ?_⟩
            · exact HX3.out.o.but (but_set5 _ _ _ _ _ _ _) (fun _ => Ne.symm HX3.out.ne.1.2.2.1)
            · exact below_set5 HX3.out.low (by omega) _ _ _ _ _
          · have hMn : M = nil := by
              rcases hM0 with e | e
              · exact e
              · rw [e] at eM; cases eM
            have hn00 : nn = 0 := by rw [HNN.out.2.2, hMn]; rfl
            have HIM : Hid (∀ F : Int → Int → X, img M F = img M (tileG T (atX B f))) := by intro F; rw [hMn]; rfl
            clear hM0 hMn
            subst hn00
            go_wp2_with (go_at_call 44; with_reducible refine Calls.mono (repeat_none no nm k0 _ hk5) ?_; rintro e w2 ⟨rfl, hw2⟩; replace hw2 := hw2.symm; subst hw2; clear p0 p1 p2 p3 pf; obtain ⟨z0, z1, z2, z3, z4, zf⟩ := HX.out.z)
            obtain ⟨s0, s1, s2, s3, s4⟩ := set5 z0 z1 z2 z3 z4 (.int .i64 M.x0) (.int .i64 M.y0) (.int .i64 M.x1) (.int .i64 M.y1) (.slice no 0 nm)
            refine bodyPost_ret (v := .agg #[.int .i64 M.x0, .int .i64 M.y0, .int .i64 M.x1, .int .i64 M.y1, .slice no 0 nm]) (by simp [results, Try.results18, go_sem, s0, s1, s2, s3, s4]) rfl ⟨⟨_, _, _, ng, noff, rfl, ?_⟩, ?_⟩
            · have h1 := HX.out.o
              rw [HIM.out] at h1
              exact h1.but (but_set5 _ _ _ _ _ _ _) (fun _ => Ne.symm HX.out.ne.1.2.2.1)
            · exact below_set5 HX.out.low (by omega) _ _ _ _ _
end Go.Proofs.Ytfgfgfmimejpdaa
