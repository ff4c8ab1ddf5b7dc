/- Windows: contracts. -/
import Derived.Test.YtfgfgfmimejpdaaRefs5
import Derived.Test.YtfgfgfmimejpdaaCopied
namespace Go.Proofs.Ytfgfgfmimejpdaa
open Num Go.RowKit
set_option linter.unusedVariables false
set_option linter.unusedSimpArgs false

abbrev S9 (w : World) (k ka : Nat) (B A : R) (v : Value) (w' : World) : Prop := (w'.cell? ⟨k, 0, none⟩ = some (.int .i64 B.x0) ∧ w'.cell? ⟨k, 1, none⟩ = some (.int .i64 B.y0) ∧ w'.cell? ⟨k, 2, none⟩ = some (.int .i64 B.x1) ∧ w'.cell? ⟨k, 3, none⟩ = some (.int .i64 B.y1) ∧ w'.cell? ⟨k, 4, none⟩ = some v ∧ w'.cell? ⟨ka, 0, none⟩ = some (.int .i64 A.x0) ∧ w'.cell? ⟨ka, 1, none⟩ = some (.int .i64 A.y0) ∧ w'.cell? ⟨ka, 2, none⟩ = some (.int .i64 A.x1) ∧ w'.cell? ⟨ka, 3, none⟩ = some (.int .i64 A.y1)) ∧ Below w.heap.size w w'
theorem s9_below {w : World} {k ka : Nat} {B A : R} {v : Value} {w1 w2 : World} (h : S9 w k ka B A v w1) (hb : Below w1.heap.size w1 w2) : S9 w k ka B A v w2 := by
  obtain ⟨⟨c0, c1, c2, c3, c4, d0, d1, d2, d3⟩, hB⟩ := h
  have hk : k < w1.heap.size := World.block_lt_of_cell? w1 ⟨k, 0, none⟩ c0
  have hm : ka < w1.heap.size := World.block_lt_of_cell? w1 ⟨ka, 0, none⟩ d0
  have e1 := fun o => World.cell?_of_block (a := ⟨k, o, none⟩) (hb.block k hk)
  have e2 := fun o => World.cell?_of_block (a := ⟨ka, o, none⟩) (hb.block ka hm)
  exact ⟨⟨by rw [e1]; exact c0, by rw [e1]; exact c1, by rw [e1]; exact c2, by rw [e1]; exact c3, by rw [e1]; exact c4, by rw [e2]; exact d0, by rw [e2]; exact d1, by rw [e2]; exact d2, by rw [e2]; exact d3⟩, hB.trans (hb.mono hB.size)⟩
abbrev S9c (k ka : Nat) (B A : R) (v : Value) (w' : World) : Prop := w'.cell? ⟨k, 0, none⟩ = some (.int .i64 B.x0) ∧ w'.cell? ⟨k, 1, none⟩ = some (.int .i64 B.y0) ∧ w'.cell? ⟨k, 2, none⟩ = some (.int .i64 B.x1) ∧ w'.cell? ⟨k, 3, none⟩ = some (.int .i64 B.y1) ∧ w'.cell? ⟨k, 4, none⟩ = some v ∧ w'.cell? ⟨ka, 0, none⟩ = some (.int .i64 A.x0) ∧ w'.cell? ⟨ka, 1, none⟩ = some (.int .i64 A.y0) ∧ w'.cell? ⟨ka, 2, none⟩ = some (.int .i64 A.x1) ∧ w'.cell? ⟨ka, 3, none⟩ = some (.int .i64 A.y1)
theorem s9c_below {k ka : Nat} {B A : R} {v : Value} {w1 w2 : World} (h : S9c k ka B A v w1) (hb : Below w1.heap.size w1 w2) : S9c k ka B A v w2 := (s9_below (w := w1) ⟨h, Below.refl _ _⟩ hb).1
theorem s9c_drew {k ka : Nat} {B A : R} {v : Value} {w1 : World} (h : S9c k ka B A v w1) : S9c k ka B A v w1.drew := s9c_below h (Below.refl _ _).drew
theorem buf_new {r : R} (ho : Ok r) (ha : area r ≤ 5000) : bufB (orN r) (wid (orN r) * hei (orN r)) = true ∧ wid (orN r) * hei (orN r) ≤ 5000 ∧ (orN r = nil ∨ empB (orN r) = false) := by
  rcases he : empB r with _ | _
  · obtain ⟨s1, s2, s3⟩ := size_of ho he ha
    rw [orN_no he]
    refine ⟨?_, s2, Or.inr he⟩
    unfold bufB
    rw [if_neg (by rw [he]; simp), Bool.and_eq_true]
    refine ⟨?_, decide_eq_true s1.symm⟩
    obtain ⟨h1, h2, h3, h4⟩ := ho
    exact decide_eq_true ⟨decide_eq_true h1, decide_eq_true h2, decide_eq_true h3, decide_eq_true h4⟩
  · rw [orN_yes he]
    decide
theorem copy_orN (r : R) (u f : Int → Int → X) (dx dy : Int) : copyG (orN r) u dx dy f = copyG r u dx dy f := by
  funext x y
  unfold copyG
  rw [has_orN]
theorem ox_lt {lo : Nat} {w : World} {ao : Option Addr} {n m g off : Nat} {l : List X} (h : Ox lo w ao n m g off l) (hm : 0 < m) : lo ≤ g ∧ g < w.heap.size := h.new hm
theorem vx_lt {w : World} {ao : Option Addr} {n m g off : Nat} {l : List X} (h : Vx w ao n m g off l) (hn : 0 < n) : g < w.heap.size := h.lies.lt (by have := h.len; omega)
theorem ok_orN' {a b c d : Int} (ho : Ok ⟨a, b, c, d⟩) : Ok (orN ⟨a, b, c, d⟩) := ok_orN ho

/-- the pixels' block is one's own, whatever it is -/
theorem ox_fresh {lo : Nat} {w : World} {ao : Option Addr} {n m g off : Nat} {l : List X} (h : Ox lo w ao n m g off l) : ∃ g' off', Ox lo w ao n m g' off' l ∧ lo ≤ g' ∧ (0 < m → g' < w.heap.size) := by
  rcases Nat.eq_zero_or_pos m with hm | hm
  · subst hm
    have hn : n = 0 := by have := h.v.le; omega
    subst hn
    have hl : l = [] := List.length_eq_zero_iff.1 (vx_len h.v)
    subst hl
    exact ⟨lo, 0, ⟨⟨by simp [flat_nil], Nat.le_refl _, by simp, fun h => absurd h (by omega), lies_nil _ _ _⟩, fun h => absurd h (by omega), fun j h => by simp at h⟩, Nat.le_refl _, fun h => absurd h (by omega)⟩
  · exact ⟨g, off, h, (h.new hm).1, fun _ => (h.new hm).2⟩
def RetG (lo : Nat) (w : World) (e : Ending) (B : R) (l : List X) : Prop := ∃ ao n c g off, e = .returned (.agg #[.int .i64 B.x0, .int .i64 B.y0, .int .i64 B.x1, .int .i64 B.y1, .slice ao n c]) ∧ Ox lo w ao n c g off l ∧ lo ≤ g ∧ (0 < c → g < w.heap.size) ∧ l.length = n
theorem retG {lo : Nat} {w : World} {e : Ending} {B : R} {l : List X} (h : RetB lo w e B l) : ∃ ao n c g off, e = .returned (.agg #[.int .i64 B.x0, .int .i64 B.y0, .int .i64 B.x1, .int .i64 B.y1, .slice ao n c]) ∧ Ox lo w ao n c g off l ∧ lo ≤ g ∧ (0 < c → g < w.heap.size) ∧ l.length = n := by
  obtain ⟨ao, n, c, g, off, he, hO⟩ := h
  obtain ⟨g', off', h1, h2, h3⟩ := ox_fresh hO
  exact ⟨ao, n, c, g', off', he, h1, h2, h3, vx_len hO.v⟩

theorem win_ne {w : World} {o1 o2 o3 : Obj} {g g' : Nat} (h : g < w.heap.size) (h' : (((w.alloc o1).alloc o2).alloc o3).heap.size ≤ g') : g ≠ g' := by simp at h'; omega
theorem win_ne2 {w : World} {o1 o2 o3 : Obj} {g' : Nat} (h' : (((w.alloc o1).alloc o2).alloc o3).heap.size ≤ g') : w.heap.size + 1 + 1 ≠ g' := by simp at h'; omega

theorem s9c_set5 {k ka j : Nat} {B A : R} {v : Value} {w1 : World} {v0 v1 v2 v3 v4 : Value} (h : S9c k ka B A v w1) (h1 : k ≠ j) (h2 : ka ≠ j) : S9c k ka B A v (((((w1.setCell ⟨j, 0, none⟩ v0).setCell ⟨j, 1, none⟩ v1).setCell ⟨j, 2, none⟩ v2).setCell ⟨j, 3, none⟩ v3).setCell ⟨j, 4, none⟩ v4) := by
  have hb := but_set5 w1 j v0 v1 v2 v3 v4
  obtain ⟨c0, c1, c2, c3, c4, d0, d1, d2, d3⟩ := h
  have e1 := fun o => World.cell?_of_block (a := ⟨k, o, none⟩) (hb.block k (World.block_lt_of_cell? w1 ⟨k, 0, none⟩ c0) h1)
  have e2 := fun o => World.cell?_of_block (a := ⟨ka, o, none⟩) (hb.block ka (World.block_lt_of_cell? w1 ⟨ka, 0, none⟩ d0) h2)
  exact ⟨by rw [e1]; exact c0, by rw [e1]; exact c1, by rw [e1]; exact c2, by rw [e1]; exact c3, by rw [e1]; exact c4, by rw [e2]; exact d0, by rw [e2]; exact d1, by rw [e2]; exact d2, by rw [e2]; exact d3⟩

set_option maxRecDepth 100000 in
set_option maxHeartbeats 2000000 in
theorem refWindow_any (B : R) (ao : Option Addr) (n m g off : Nat) (f : Int → Int → X) (A : R) (w : World) (hn : n ≤ 5000) (hb : Ok B) (h : Vx w ao n m g off (img B f)) (ho : Ok A) (ha : area A ≤ 5000) :
    Calls Try.prog 33 #[.agg #[.int .i64 B.x0, .int .i64 B.y0, .int .i64 B.x1, .int .i64 B.y1, .slice ao n m], .agg #[.int .i64 A.x0, .int .i64 A.y0, .int .i64 A.x1, .int .i64 A.y1]] w fun e w' => RetB w.heap.size w' e (orN A) (img (orN A) (copyG A (atX B f) 0 0 fun _ _ => noX)) ∧ Below w.heap.size w w' := by
  obtain ⟨W0, hW0⟩ : ∃ W0, W0 = (((w.alloc (.cells #[.int .i64 B.x0, .int .i64 B.y0, .int .i64 B.x1, .int .i64 B.y1, .slice ao n m] 26)).alloc (.cells #[.int .i64 A.x0, .int .i64 A.y0, .int .i64 A.x1, .int .i64 A.y1] 23)).alloc (.cells #[.int .i64 0, .int .i64 0, .int .i64 0, .int .i64 0, .slice none 0 0] 26)) := ⟨_, rfl⟩
  have HA : Hid (Has5 W0 w.heap.size B ao n m ∧ Rc.Has4 W0 (w.heap.size + 1) (.int .i64 A.x0) (.int .i64 A.y0) (.int .i64 A.x1) (.int .i64 A.y1) ∧ Has5 W0 (w.heap.size + 1 + 1) ⟨0, 0, 0, 0⟩ none 0 0 ∧ Below w.heap.size w W0) := by
    subst hW0
    exact ⟨((Has5.new rfl _ _ _ _ _ _ _ _).alloc _).alloc _, (Rc.Has4.new (by simp) _ _ _ _ _).alloc _, Has5.new (by simp) _ _ _ _ _ _ _ _, (((Below.refl _ _).alloc (Nat.le_refl _) _).alloc (by simp) _).alloc (by simp; omega) _⟩
  obtain ⟨Q, hQ⟩ : ∃ Q, Q = orN A := ⟨_, rfl⟩
  have HQ := hid hQ
  have HU : Hid (wid Q * hei Q ≤ 5000 ∧ Ok Q ∧ (Q = nil ∨ empB Q = false)) := by
    have := buf_new ho ha
    rw [hQ]
    exact ⟨this.2.1, ok_orN ho, this.2.2⟩
  have HH := hid (And.intro h (And.intro hb (And.intro ho ha)))
  rw [← hQ]
  clear hQ h hb ho ha
  have z0 : (-4398046511104 : Int) ≤ 0 ∧ (0 : Int) ≤ 4398046511104 := by omega
  have HZ := hid z0
  clear z0
  go_enter Try.func33, Try.ntmps33
  go_wp2
  rw [← hW0]
  clear hW0
  have hS : S9c w.heap.size (w.heap.size + 1) B A (.slice ao n m) W0 := ⟨HA.out.1.c0, HA.out.1.c1, HA.out.1.c2, HA.out.1.c3, HA.out.1.c4, HA.out.2.1.c0, HA.out.2.1.c1, HA.out.2.1.c2, HA.out.2.1.c3⟩
  go_region_held3 (fun w' => w'.cell? ⟨w.heap.size, 0, none⟩ = some (.int .i64 B.x0) ∧ w'.cell? ⟨w.heap.size, 1, none⟩ = some (.int .i64 B.y0) ∧ w'.cell? ⟨w.heap.size, 2, none⟩ = some (.int .i64 B.x1) ∧ w'.cell? ⟨w.heap.size, 3, none⟩ = some (.int .i64 B.y1) ∧ w'.cell? ⟨w.heap.size, 4, none⟩ = some (.slice ao n m) ∧ w'.cell? ⟨(w.heap.size + 1), 0, none⟩ = some (.int .i64 A.x0) ∧ w'.cell? ⟨(w.heap.size + 1), 1, none⟩ = some (.int .i64 A.y0) ∧ w'.cell? ⟨(w.heap.size + 1), 2, none⟩ = some (.int .i64 A.x1) ∧ w'.cell? ⟨(w.heap.size + 1), 3, none⟩ = some (.int .i64 A.y1)) (repeat (first | with_reducible assumption | with_reducible refine s9c_drew ?_ | with_reducible refine s9c_set5 ?_ (by omega) (by omega) | with_reducible refine s9c_below ?_ ‹_›))
    ((first
    | (go_at_call 49; with_reducible refine Calls.mono (refNew_any A.x0 A.y0 A.x1 A.y1 _ HH.out.2.2.1 HH.out.2.2.2) ?_; rintro e w1 ⟨hr, hb1⟩; rw [show orN ⟨A.x0, A.y0, A.x1, A.y1⟩ = Q from HQ.out.symm] at hr; obtain ⟨no, nn, nm, ng, noff, rfl, hO, hg1, hg2, hln⟩ := retG hr; rw [img_len] at hln; have HL := hid hln; have HB1 := hid (Rc.via HA.out.2.2.2.drew hb1); have HZ1 := hid ((HA.out.2.2.1.below (Below.refl _ _).drew).below hb1); have HO1 := hid hO; clear hr hO hg1 hg2 hln)
    | (go_at_call 48; with_reducible refine Calls.mono (refCopy_any Q no nn nm ng noff (fun _ _ => noX) A.x0 A.y0 A.x1 A.y1 B ao n m g off f 0 0 _ HU.out.2.1 HU.out.2.2 (HL.out ▸ HU.out.1) HO1.out.v HH.out.2.1 hn (HH.out.1.below HB1.out) HZ.out HZ.out) ?_; rintro e w2 ⟨hr, hb2⟩; obtain ⟨ro, rn, rm, rg, roff, rfl, hO, hg1, hg2, hln⟩ := retG hr; have HB2 := hid (Rc.via HB1.out hb2); have HZ2 := hid (HZ1.out.below hb2); have HO2 := hid (And.intro hO hg1); have hz2 := HZ1.out.lt; clear hr hO hg1 hg2 hln; obtain ⟨z0, z1, z2, z3, z4, zf⟩ := HZ2.out)))
  go_wp2
  obtain ⟨s0, s1, s2, s3, s4⟩ := set5 z0 z1 z2 z3 z4 (.int .i64 Q.x0) (.int .i64 Q.y0) (.int .i64 Q.x1) (.int .i64 Q.y1) (.slice ro rn rm)
  refine bodyPost_ret (v := .agg #[.int .i64 Q.x0, .int .i64 Q.y0, .int .i64 Q.x1, .int .i64 Q.y1, .slice ro rn rm]) (by simp [results, Try.results33, go_sem, s0, s1, s2, s3, s4]) rfl ⟨⟨_, _, _, rg, roff, rfl, ?_⟩, ?_⟩
  · have hlo := HB1.out.size
    exact (HO2.out.1.but (but_set5 _ _ _ _ _ _ _) (fun _ => by have := HO2.out.2; omega)).mono hlo
  · exact below_set5 HB2.out (by omega) _ _ _ _ _
end Go.Proofs.Ytfgfgfmimejpdaa
