/- What is offset, clipped and flooded, by the code and by the document: contracts. -/
import Derived.Test.YtfgfgfmimejpdaaCopyB
import Derived.Test.YtfgfgfmimejpdaaMoveNum
import Derived.Test.YtfgfgfmimejpdaaBoth
import Derived.Test.YtfgfgfmimejpdaarefFill
namespace Go.Proofs.Ytfgfgfmimejpdaa
open Num Go.RowKit
set_option linter.unusedVariables false
set_option linter.unusedSimpArgs false

theorem copy_box {D : R} {u g : Int → Int → X} {dx dy : Int} : img (orN D) (copyG D u dx dy g) = img (orN D) (fun x y => u (x - dx) (y - dy)) := by
  apply img_ext
  intro x y h
  rw [has_orN] at h
  unfold copyG
  rw [if_pos h]
theorem copy_boxN {D : R} {u g : Int → Int → X} {dx dy : Int} : img (orN D) (copyG (orN D) u dx dy g) = img (orN D) (fun x y => u (x - dx) (y - dy)) := by
  apply img_ext
  intro x y h
  unfold copyG
  rw [if_pos h]
theorem win_lt4 {w : World} {o1 o2 o3 o4 : Obj} {g g' : Nat} (h : g < w.heap.size) (h' : ((((w.alloc o1).alloc o2).alloc o3).alloc o4).heap.size ≤ g') : g ≠ g' := by simp at h'; omega
theorem win_ne3 {w : World} {o1 o2 o3 o4 : Obj} {g' : Nat} (h' : ((((w.alloc o1).alloc o2).alloc o3).alloc o4).heap.size ≤ g') : w.heap.size ≠ g' ∧ w.heap.size + 1 ≠ g' ∧ w.heap.size + 1 + 1 ≠ g' ∧ w.heap.size + 1 + 1 + 1 ≠ g' := by simp at h'; omega
theorem win_lt3 {w : World} {o1 o2 o3 : Obj} {g g' : Nat} (h : g < w.heap.size) (h' : (((w.alloc o1).alloc o2).alloc o3).heap.size ≤ g') : g ≠ g' := by simp at h'; omega
theorem win_ne2' {w : World} {o1 o2 o3 : Obj} {g' : Nat} (h' : (((w.alloc o1).alloc o2).alloc o3).heap.size ≤ g') : w.heap.size + 1 + 1 ≠ g' := by simp at h'; omega

set_option maxRecDepth 100000 in
set_option maxHeartbeats 2000000 in
theorem refOffset_any (B : R) (ao : Option Addr) (n m g off : Nat) (f : Int → Int → X) (A : R) (dx dy : Int) (w : World) (hn : n ≤ 5000) (hb : Ok B) (h : Vx w ao n m g off (img B f)) (ho : Ok A) (ha : area A ≤ 5000) (hdx : -4398046511104 ≤ dx ∧ dx ≤ 4398046511104) (hdy : -4398046511104 ≤ dy ∧ dy ≤ 4398046511104) :
    Calls Try.prog 21 #[.agg #[.int .i64 B.x0, .int .i64 B.y0, .int .i64 B.x1, .int .i64 B.y1, .slice ao n m], .agg #[.int .i64 A.x0, .int .i64 A.y0, .int .i64 A.x1, .int .i64 A.y1], .int .i64 dx, .int .i64 dy] w fun e w' => RetB w.heap.size w' e (orN A) (img (orN A) (fun x y => atX B f (x - dx) (y - dy))) ∧ Below w.heap.size w w' := by
  obtain ⟨W0, hW0⟩ : ∃ W0, W0 = (((w.alloc (.cells #[.int .i64 B.x0, .int .i64 B.y0, .int .i64 B.x1, .int .i64 B.y1, .slice ao n m] 26)).alloc (.cells #[.int .i64 A.x0, .int .i64 A.y0, .int .i64 A.x1, .int .i64 A.y1] 23)).alloc (.cells #[.int .i64 0, .int .i64 0, .int .i64 0, .int .i64 0, .slice none 0 0] 26)) := ⟨_, rfl⟩
  have HA : Hid (Has5 W0 w.heap.size B ao n m ∧ Rc.Has4 W0 (w.heap.size + 1) (.int .i64 A.x0) (.int .i64 A.y0) (.int .i64 A.x1) (.int .i64 A.y1) ∧ Has5 W0 (w.heap.size + 1 + 1) ⟨0, 0, 0, 0⟩ none 0 0 ∧ Below w.heap.size w W0) := by
    subst hW0
    exact ⟨((Has5.new rfl _ _ _ _ _ _ _ _).alloc _).alloc _, (Rc.Has4.new (by simp) _ _ _ _ _).alloc _, Has5.new (by simp) _ _ _ _ _ _ _ _, (((Below.refl _ _).alloc (Nat.le_refl _) _).alloc (by simp) _).alloc (by simp; omega) _⟩
  obtain ⟨Q, hQ⟩ : ∃ Q, Q = orN A := ⟨_, rfl⟩
  have HQ := hid hQ
  have HU : Hid (wid Q * hei Q ≤ 5000 ∧ Ok Q ∧ (Q = nil ∨ empB Q = false)) := by
    have := buf_new ho ha
    rw [hQ]
    exact ⟨this.2.1, ok_orN ho, this.2.2⟩
  have HH := hid (And.intro h (And.intro hb (And.intro ho ha)))
  rw [← hQ]
  clear hQ h hb ho ha
  have HZ := hid (And.intro hdx hdy)
  clear hdx hdy
  go_enter Try.func21, Try.ntmps21
  go_wp2
  rw [← hW0]
  clear hW0
  have hS : S9c w.heap.size (w.heap.size + 1) B A (.slice ao n m) W0 := ⟨HA.out.1.c0, HA.out.1.c1, HA.out.1.c2, HA.out.1.c3, HA.out.1.c4, HA.out.2.1.c0, HA.out.2.1.c1, HA.out.2.1.c2, HA.out.2.1.c3⟩
  go_region_held3 (fun w' => w'.cell? ⟨w.heap.size, 0, none⟩ = some (.int .i64 B.x0) ∧ w'.cell? ⟨w.heap.size, 1, none⟩ = some (.int .i64 B.y0) ∧ w'.cell? ⟨w.heap.size, 2, none⟩ = some (.int .i64 B.x1) ∧ w'.cell? ⟨w.heap.size, 3, none⟩ = some (.int .i64 B.y1) ∧ w'.cell? ⟨w.heap.size, 4, none⟩ = some (.slice ao n m) ∧ w'.cell? ⟨(w.heap.size + 1), 0, none⟩ = some (.int .i64 A.x0) ∧ w'.cell? ⟨(w.heap.size + 1), 1, none⟩ = some (.int .i64 A.y0) ∧ w'.cell? ⟨(w.heap.size + 1), 2, none⟩ = some (.int .i64 A.x1) ∧ w'.cell? ⟨(w.heap.size + 1), 3, none⟩ = some (.int .i64 A.y1)) (repeat (first | with_reducible assumption | with_reducible refine s9c_drew ?_ | with_reducible refine s9c_set5 ?_ (by omega) (by omega) | with_reducible refine s9c_below ?_ ‹_›))
    ((first
    | (go_at_call 49; with_reducible refine Calls.mono (refNew_any A.x0 A.y0 A.x1 A.y1 _ HH.out.2.2.1 HH.out.2.2.2) ?_; rintro e w1 ⟨hr, hb1⟩; rw [show orN ⟨A.x0, A.y0, A.x1, A.y1⟩ = Q from HQ.out.symm] at hr; obtain ⟨no, nn, nm, ng, noff, rfl, hO, hg1, hg2, hln⟩ := retG hr; rw [img_len] at hln; have HL := hid hln; have HB1 := hid (Rc.via HA.out.2.2.2.drew hb1); have HZ1 := hid ((HA.out.2.2.1.below (Below.refl _ _).drew).below hb1); have HO1 := hid hO; clear hr hO hg1 hg2 hln)
    | (go_at_call 48; with_reducible refine Calls.mono (refCopy_any Q no nn nm ng noff (fun _ _ => noX) A.x0 A.y0 A.x1 A.y1 B ao n m g off f dx dy _ HU.out.2.1 HU.out.2.2 (HL.out ▸ HU.out.1) HO1.out.v HH.out.2.1 hn (HH.out.1.below HB1.out) HZ.out.1 HZ.out.2) ?_; rintro e w2 ⟨hr, hb2⟩; obtain ⟨ro, rn, rm, rg, roff, rfl, hO, hg1, hg2, hln⟩ := retG hr; have HB2 := hid (Rc.via HB1.out hb2); have HZ2 := hid (HZ1.out.below hb2); have HO2 := hid (And.intro hO hg1); have hz2 := HZ1.out.lt; clear hr hO hg1 hg2 hln; obtain ⟨z0, z1, z2, z3, z4, zf⟩ := HZ2.out)))
  go_wp2
  obtain ⟨s0, s1, s2, s3, s4⟩ := set5 z0 z1 z2 z3 z4 (.int .i64 Q.x0) (.int .i64 Q.y0) (.int .i64 Q.x1) (.int .i64 Q.y1) (.slice ro rn rm)
  refine bodyPost_ret (v := .agg #[.int .i64 Q.x0, .int .i64 Q.y0, .int .i64 Q.x1, .int .i64 Q.y1, .slice ro rn rm]) (by simp [results, Try.results21, go_sem, s0, s1, s2, s3, s4]) rfl ⟨⟨_, _, _, rg, roff, rfl, ?_⟩, ?_⟩
  · have hlo := HB1.out.size
    have h1 := HO2.out.1
    rw [HQ.out, copy_box, ← HQ.out] at h1
    exact (h1.but (but_set5 _ _ _ _ _ _ _) (fun _ => by have := HO2.out.2; omega)).mono hlo
  · exact below_set5 HB2.out (by omega) _ _ _ _ _

abbrev S13 (s : Nat) (B A r : R) (v : Value) (w' : World) : Prop := w'.cell? ⟨s, 0, none⟩ = some (.int .i64 B.x0) ∧ w'.cell? ⟨s, 1, none⟩ = some (.int .i64 B.y0) ∧ w'.cell? ⟨s, 2, none⟩ = some (.int .i64 B.x1) ∧ w'.cell? ⟨s, 3, none⟩ = some (.int .i64 B.y1) ∧ w'.cell? ⟨s, 4, none⟩ = some (v) ∧ w'.cell? ⟨(s + 1), 0, none⟩ = some (.int .i64 A.x0) ∧ w'.cell? ⟨(s + 1), 1, none⟩ = some (.int .i64 A.y0) ∧ w'.cell? ⟨(s + 1), 2, none⟩ = some (.int .i64 A.x1) ∧ w'.cell? ⟨(s + 1), 3, none⟩ = some (.int .i64 A.y1) ∧ w'.cell? ⟨(s + 1 + 1), 0, none⟩ = some (.int .i64 r.x0) ∧ w'.cell? ⟨(s + 1 + 1), 1, none⟩ = some (.int .i64 r.y0) ∧ w'.cell? ⟨(s + 1 + 1), 2, none⟩ = some (.int .i64 r.x1) ∧ w'.cell? ⟨(s + 1 + 1), 3, none⟩ = some (.int .i64 r.y1)
theorem S13_block {s : Nat} {B A r : R} {v : Value} {w1 w2 : World} (h : S13 s B A r v w1) (e0 : s < w1.heap.size → w2.heap[s]? = w1.heap[s]?) (e1 : (s + 1) < w1.heap.size → w2.heap[(s + 1)]? = w1.heap[(s + 1)]?) (e2 : (s + 1 + 1) < w1.heap.size → w2.heap[(s + 1 + 1)]? = w1.heap[(s + 1 + 1)]?) : S13 s B A r v w2 := by
  obtain ⟨c0, c1, c2, c3, c4, c5, c6, c7, c8, c9, c10, c11, c12⟩ := h
  have e0 := fun o => World.cell?_of_block (a := ⟨s, o, none⟩) (e0 (World.block_lt_of_cell? w1 ⟨s, 0, none⟩ c0))
  have e1 := fun o => World.cell?_of_block (a := ⟨(s + 1), o, none⟩) (e1 (World.block_lt_of_cell? w1 ⟨(s + 1), 0, none⟩ c5))
  have e2 := fun o => World.cell?_of_block (a := ⟨(s + 1 + 1), o, none⟩) (e2 (World.block_lt_of_cell? w1 ⟨(s + 1 + 1), 0, none⟩ c9))
  exact ⟨by rw [e0]; exact c0, by rw [e0]; exact c1, by rw [e0]; exact c2, by rw [e0]; exact c3, by rw [e0]; exact c4, by rw [e1]; exact c5, by rw [e1]; exact c6, by rw [e1]; exact c7, by rw [e1]; exact c8, by rw [e2]; exact c9, by rw [e2]; exact c10, by rw [e2]; exact c11, by rw [e2]; exact c12⟩
theorem S13_below {s : Nat} {B A r : R} {v : Value} {w1 w2 : World} (h : S13 s B A r v w1) (hb : Below w1.heap.size w1 w2) : S13 s B A r v w2 := S13_block h (fun l => hb.block _ l) (fun l => hb.block _ l) (fun l => hb.block _ l)
theorem S13_drew {s : Nat} {B A r : R} {v : Value} {w1 : World} (h : S13 s B A r v w1) : S13 s B A r v w1.drew := S13_below h (Below.refl _ _).drew
theorem S13_alloc {s : Nat} {B A r : R} {v : Value} {w1 : World} {o : Obj} (h : S13 s B A r v w1) : S13 s B A r v (w1.alloc o) := S13_below h ((Below.refl _ _).alloc (Nat.le_refl _) _)
theorem S13_but {s : Nat} {B A r : R} {v : Value} {g : Nat} {w1 w2 : World} (h : S13 s B A r v w1) (hb : But g w1 w2) (h0 : s ≠ g) (h1 : (s + 1) ≠ g) (h2 : (s + 1 + 1) ≠ g) : S13 s B A r v w2 := S13_block h (fun l => hb.block _ l h0) (fun l => hb.block _ l h1) (fun l => hb.block _ l h2)
theorem S13_set5 {s : Nat} {B A r : R} {v : Value} {j : Nat} {w1 : World} {v0 v1 v2 v3 v4 : Value} (h : S13 s B A r v w1) (h0 : s ≠ j) (h1 : (s + 1) ≠ j) (h2 : (s + 1 + 1) ≠ j) : S13 s B A r v (((((w1.setCell ⟨j, 0, none⟩ v0).setCell ⟨j, 1, none⟩ v1).setCell ⟨j, 2, none⟩ v2).setCell ⟨j, 3, none⟩ v3).setCell ⟨j, 4, none⟩ v4) := S13_but h (but_set5 w1 j v0 v1 v2 v3 v4) h0 h1 h2
theorem S13_set4 {s : Nat} {B A r : R} {v : Value} {j : Nat} {w1 : World} {v0 v1 v2 v3 : Value} (h : S13 s B A r v w1) (h0 : s ≠ j) (h1 : (s + 1) ≠ j) (h2 : (s + 1 + 1) ≠ j) : S13 s B A r v ((((w1.setCell ⟨j, 0, none⟩ v0).setCell ⟨j, 1, none⟩ v1).setCell ⟨j, 2, none⟩ v2).setCell ⟨j, 3, none⟩ v3) := S13_but h (but_set4 w1 j v0 v1 v2 v3) h0 h1 h2
abbrev S12 (s : Nat) (A r : R) (p : X) (w' : World) : Prop := w'.cell? ⟨s, 0, none⟩ = some (.int .i64 A.x0) ∧ w'.cell? ⟨s, 1, none⟩ = some (.int .i64 A.y0) ∧ w'.cell? ⟨s, 2, none⟩ = some (.int .i64 A.x1) ∧ w'.cell? ⟨s, 3, none⟩ = some (.int .i64 A.y1) ∧ w'.cell? ⟨(s + 1), 0, none⟩ = some (.int .u8 p.c0) ∧ w'.cell? ⟨(s + 1), 1, none⟩ = some (.int .u8 p.c1) ∧ w'.cell? ⟨(s + 1), 2, none⟩ = some (.int .u8 p.c2) ∧ w'.cell? ⟨(s + 1), 3, none⟩ = some (.int .u8 p.c3) ∧ w'.cell? ⟨(s + 1 + 1), 0, none⟩ = some (.int .i64 r.x0) ∧ w'.cell? ⟨(s + 1 + 1), 1, none⟩ = some (.int .i64 r.y0) ∧ w'.cell? ⟨(s + 1 + 1), 2, none⟩ = some (.int .i64 r.x1) ∧ w'.cell? ⟨(s + 1 + 1), 3, none⟩ = some (.int .i64 r.y1)
theorem S12_block {s : Nat} {A r : R} {p : X} {w1 w2 : World} (h : S12 s A r p w1) (e0 : s < w1.heap.size → w2.heap[s]? = w1.heap[s]?) (e1 : (s + 1) < w1.heap.size → w2.heap[(s + 1)]? = w1.heap[(s + 1)]?) (e2 : (s + 1 + 1) < w1.heap.size → w2.heap[(s + 1 + 1)]? = w1.heap[(s + 1 + 1)]?) : S12 s A r p w2 := by
  obtain ⟨c0, c1, c2, c3, c4, c5, c6, c7, c8, c9, c10, c11⟩ := h
  have e0 := fun o => World.cell?_of_block (a := ⟨s, o, none⟩) (e0 (World.block_lt_of_cell? w1 ⟨s, 0, none⟩ c0))
  have e1 := fun o => World.cell?_of_block (a := ⟨(s + 1), o, none⟩) (e1 (World.block_lt_of_cell? w1 ⟨(s + 1), 0, none⟩ c4))
  have e2 := fun o => World.cell?_of_block (a := ⟨(s + 1 + 1), o, none⟩) (e2 (World.block_lt_of_cell? w1 ⟨(s + 1 + 1), 0, none⟩ c8))
  exact ⟨by rw [e0]; exact c0, by rw [e0]; exact c1, by rw [e0]; exact c2, by rw [e0]; exact c3, by rw [e1]; exact c4, by rw [e1]; exact c5, by rw [e1]; exact c6, by rw [e1]; exact c7, by rw [e2]; exact c8, by rw [e2]; exact c9, by rw [e2]; exact c10, by rw [e2]; exact c11⟩
theorem S12_below {s : Nat} {A r : R} {p : X} {w1 w2 : World} (h : S12 s A r p w1) (hb : Below w1.heap.size w1 w2) : S12 s A r p w2 := S12_block h (fun l => hb.block _ l) (fun l => hb.block _ l) (fun l => hb.block _ l)
theorem S12_drew {s : Nat} {A r : R} {p : X} {w1 : World} (h : S12 s A r p w1) : S12 s A r p w1.drew := S12_below h (Below.refl _ _).drew
theorem S12_alloc {s : Nat} {A r : R} {p : X} {w1 : World} {o : Obj} (h : S12 s A r p w1) : S12 s A r p (w1.alloc o) := S12_below h ((Below.refl _ _).alloc (Nat.le_refl _) _)
theorem S12_but {s : Nat} {A r : R} {p : X} {g : Nat} {w1 w2 : World} (h : S12 s A r p w1) (hb : But g w1 w2) (h0 : s ≠ g) (h1 : (s + 1) ≠ g) (h2 : (s + 1 + 1) ≠ g) : S12 s A r p w2 := S12_block h (fun l => hb.block _ l h0) (fun l => hb.block _ l h1) (fun l => hb.block _ l h2)
theorem S12_set5 {s : Nat} {A r : R} {p : X} {j : Nat} {w1 : World} {v0 v1 v2 v3 v4 : Value} (h : S12 s A r p w1) (h0 : s ≠ j) (h1 : (s + 1) ≠ j) (h2 : (s + 1 + 1) ≠ j) : S12 s A r p (((((w1.setCell ⟨j, 0, none⟩ v0).setCell ⟨j, 1, none⟩ v1).setCell ⟨j, 2, none⟩ v2).setCell ⟨j, 3, none⟩ v3).setCell ⟨j, 4, none⟩ v4) := S12_but h (but_set5 w1 j v0 v1 v2 v3 v4) h0 h1 h2
theorem S12_set4 {s : Nat} {A r : R} {p : X} {j : Nat} {w1 : World} {v0 v1 v2 v3 : Value} (h : S12 s A r p w1) (h0 : s ≠ j) (h1 : (s + 1) ≠ j) (h2 : (s + 1 + 1) ≠ j) : S12 s A r p ((((w1.setCell ⟨j, 0, none⟩ v0).setCell ⟨j, 1, none⟩ v1).setCell ⟨j, 2, none⟩ v2).setCell ⟨j, 3, none⟩ v3) := S12_but h (but_set4 w1 j v0 v1 v2 v3) h0 h1 h2
set_option maxRecDepth 100000 in
set_option maxHeartbeats 2000000 in
theorem refClip_any (B : R) (ao : Option Addr) (n m g off : Nat) (f : Int → Int → X) (A r : R) (w : World) (hn : n ≤ 5000) (hb : Ok B) (h : Vx w ao n m g off (img B f)) (ho : Ok A) (ha : area A ≤ 5000) :
    Calls Try.prog 23 #[.agg #[.int .i64 B.x0, .int .i64 B.y0, .int .i64 B.x1, .int .i64 B.y1, .slice ao n m], .agg #[.int .i64 A.x0, .int .i64 A.y0, .int .i64 A.x1, .int .i64 A.y1], .agg #[.int .i64 r.x0, .int .i64 r.y0, .int .i64 r.x1, .int .i64 r.y1]] w fun e w' => RetB w.heap.size w' e (orN A) (img (orN A) (copyG r (atX B f) 0 0 fun _ _ => noX)) ∧ Below w.heap.size w w' := by
  obtain ⟨W0, hW0⟩ : ∃ W0, W0 = ((((w.alloc (.cells #[.int .i64 B.x0, .int .i64 B.y0, .int .i64 B.x1, .int .i64 B.y1, .slice ao n m] 26)).alloc (.cells #[.int .i64 A.x0, .int .i64 A.y0, .int .i64 A.x1, .int .i64 A.y1] 23)).alloc (.cells #[.int .i64 r.x0, .int .i64 r.y0, .int .i64 r.x1, .int .i64 r.y1] 23)).alloc (.cells #[.int .i64 0, .int .i64 0, .int .i64 0, .int .i64 0, .slice none 0 0] 26)) := ⟨_, rfl⟩
  have HA : Hid (Has5 W0 w.heap.size B ao n m ∧ Rc.Has4 W0 (w.heap.size + 1) (.int .i64 A.x0) (.int .i64 A.y0) (.int .i64 A.x1) (.int .i64 A.y1) ∧ Rc.Has4 W0 (w.heap.size + 1 + 1) (.int .i64 r.x0) (.int .i64 r.y0) (.int .i64 r.x1) (.int .i64 r.y1) ∧ Has5 W0 (w.heap.size + 1 + 1 + 1) ⟨0, 0, 0, 0⟩ none 0 0 ∧ Below w.heap.size w W0) := by
    subst hW0
    exact ⟨(((Has5.new rfl _ _ _ _ _ _ _ _).alloc _).alloc _).alloc _, ((Rc.Has4.new (by simp) _ _ _ _ _).alloc _).alloc _, (Rc.Has4.new (by simp) _ _ _ _ _).alloc _, Has5.new (by simp) _ _ _ _ _ _ _ _, ((((Below.refl _ _).alloc (Nat.le_refl _) _).alloc (by simp) _).alloc (by simp; omega) _).alloc (by simp; omega) _⟩
  obtain ⟨Q, hQ⟩ : ∃ Q, Q = orN A := ⟨_, rfl⟩
  have HQ := hid hQ
  have HU : Hid (wid Q * hei Q ≤ 5000 ∧ Ok Q ∧ (Q = nil ∨ empB Q = false)) := by
    have := buf_new ho ha
    rw [hQ]
    exact ⟨this.2.1, ok_orN ho, this.2.2⟩
  have HH := hid (And.intro ho (And.intro ha (And.intro h hb)))
  rw [← hQ]
  clear hQ h hb ho ha
  have z0 : (-4398046511104 : Int) ≤ 0 ∧ (0 : Int) ≤ 4398046511104 := by omega
  have HZ := hid z0
  clear z0
  go_enter Try.func23, Try.ntmps23
  go_wp2
  rw [← hW0]
  clear hW0
  have hS : S13 w.heap.size B A r (.slice ao n m) W0 := ⟨HA.out.1.c0, HA.out.1.c1, HA.out.1.c2, HA.out.1.c3, HA.out.1.c4, HA.out.2.1.c0, HA.out.2.1.c1, HA.out.2.1.c2, HA.out.2.1.c3, HA.out.2.2.1.c0, HA.out.2.2.1.c1, HA.out.2.2.1.c2, HA.out.2.2.1.c3⟩
  go_region_held3 (fun w' => w'.cell? ⟨w.heap.size, 0, none⟩ = some (.int .i64 B.x0) ∧ w'.cell? ⟨w.heap.size, 1, none⟩ = some (.int .i64 B.y0) ∧ w'.cell? ⟨w.heap.size, 2, none⟩ = some (.int .i64 B.x1) ∧ w'.cell? ⟨w.heap.size, 3, none⟩ = some (.int .i64 B.y1) ∧ w'.cell? ⟨w.heap.size, 4, none⟩ = some (.slice ao n m) ∧ w'.cell? ⟨(w.heap.size + 1), 0, none⟩ = some (.int .i64 A.x0) ∧ w'.cell? ⟨(w.heap.size + 1), 1, none⟩ = some (.int .i64 A.y0) ∧ w'.cell? ⟨(w.heap.size + 1), 2, none⟩ = some (.int .i64 A.x1) ∧ w'.cell? ⟨(w.heap.size + 1), 3, none⟩ = some (.int .i64 A.y1) ∧ w'.cell? ⟨(w.heap.size + 1 + 1), 0, none⟩ = some (.int .i64 r.x0) ∧ w'.cell? ⟨(w.heap.size + 1 + 1), 1, none⟩ = some (.int .i64 r.y0) ∧ w'.cell? ⟨(w.heap.size + 1 + 1), 2, none⟩ = some (.int .i64 r.x1) ∧ w'.cell? ⟨(w.heap.size + 1 + 1), 3, none⟩ = some (.int .i64 r.y1)) (repeat (first | with_reducible assumption | with_reducible refine S13_drew ?_ | with_reducible refine S13_alloc ?_ | with_reducible refine S13_set5 ?_ (by omega) (by omega) (by omega) | with_reducible refine S13_set4 ?_ (by omega) (by omega) (by omega) | with_reducible refine S13_below ?_ ‹_›))
    ((first
    | (go_at_call 49; with_reducible refine Calls.mono (refNew_any A.x0 A.y0 A.x1 A.y1 _ HH.out.1 HH.out.2.1) ?_; rintro e w1 ⟨hr, hb1⟩; rw [show orN ⟨A.x0, A.y0, A.x1, A.y1⟩ = Q from HQ.out.symm] at hr; obtain ⟨no, nn, nm, ng, noff, rfl, hO, hg1, hg2, hln⟩ := retG hr; rw [img_len] at hln; have HL := hid hln; have HB1 := hid (Rc.via HA.out.2.2.2.2.drew hb1); have HZ1 := hid ((HA.out.2.2.2.1.below (Below.refl _ _).drew).below hb1); have HO1 := hid hO; clear hr hO hg1 hg2 hln)
    | (go_at_call 48; with_reducible refine Calls.mono (refCopy_any Q no nn nm ng noff (fun _ _ => noX) r.x0 r.y0 r.x1 r.y1 B ao n m g off f 0 0 _ HU.out.2.1 HU.out.2.2 (HL.out ▸ HU.out.1) HO1.out.v HH.out.2.2.2 hn (HH.out.2.2.1.below HB1.out) HZ.out HZ.out) ?_; rintro e w2 ⟨hr, hb2⟩; obtain ⟨ro, rn, rm, rg, roff, rfl, hO, hg1, hg2, hln⟩ := retG hr; have HB2 := hid (Rc.via HB1.out hb2); have HZ2 := hid (HZ1.out.below hb2); have HO2 := hid (And.intro hO hg1); have hz2 := HZ1.out.lt; clear hr hO hg1 hg2 hln; obtain ⟨z0, z1, z2, z3, z4, zf⟩ := HZ2.out)))
  go_wp2
  obtain ⟨s0, s1, s2, s3, s4⟩ := set5 z0 z1 z2 z3 z4 (.int .i64 Q.x0) (.int .i64 Q.y0) (.int .i64 Q.x1) (.int .i64 Q.y1) (.slice ro rn rm)
  refine bodyPost_ret (v := .agg #[.int .i64 Q.x0, .int .i64 Q.y0, .int .i64 Q.x1, .int .i64 Q.y1, .slice ro rn rm]) (by simp [results, Try.results23, go_sem, s0, s1, s2, s3, s4]) rfl ⟨⟨_, _, _, rg, roff, rfl, ?_⟩, ?_⟩
  · have hlo := HB1.out.size
    exact (HO2.out.1.but (but_set5 _ _ _ _ _ _ _) (fun _ => by have := HO2.out.2; omega)).mono hlo
  · exact below_set5 HB2.out (by omega) _ _ _ _ _

set_option maxRecDepth 100000 in
set_option maxHeartbeats 2000000 in
theorem refFlood_any (A r : R) (p : X) (w : World) (ho : Ok A) (ha : area A ≤ 5000) :
    Calls Try.prog 25 #[.agg #[.int .i64 A.x0, .int .i64 A.y0, .int .i64 A.x1, .int .i64 A.y1], .agg #[.int .u8 p.c0, .int .u8 p.c1, .int .u8 p.c2, .int .u8 p.c3], .agg #[.int .i64 r.x0, .int .i64 r.y0, .int .i64 r.x1, .int .i64 r.y1]] w fun e w' => RetB w.heap.size w' e (orN A) (img (orN A) (fillG r p fun _ _ => noX)) ∧ Below w.heap.size w w' := by
  obtain ⟨W0, hW0⟩ : ∃ W0, W0 = ((((w.alloc (.cells #[.int .i64 A.x0, .int .i64 A.y0, .int .i64 A.x1, .int .i64 A.y1] 23)).alloc (.cells #[.int .u8 p.c0, .int .u8 p.c1, .int .u8 p.c2, .int .u8 p.c3] 28)).alloc (.cells #[.int .i64 r.x0, .int .i64 r.y0, .int .i64 r.x1, .int .i64 r.y1] 23)).alloc (.cells #[.int .i64 0, .int .i64 0, .int .i64 0, .int .i64 0, .slice none 0 0] 26)) := ⟨_, rfl⟩
  have HA : Hid (Rc.Has4 W0 w.heap.size (.int .i64 A.x0) (.int .i64 A.y0) (.int .i64 A.x1) (.int .i64 A.y1) ∧ Rc.Has4 W0 (w.heap.size + 1) (.int .u8 p.c0) (.int .u8 p.c1) (.int .u8 p.c2) (.int .u8 p.c3) ∧ Rc.Has4 W0 (w.heap.size + 1 + 1) (.int .i64 r.x0) (.int .i64 r.y0) (.int .i64 r.x1) (.int .i64 r.y1) ∧ Has5 W0 (w.heap.size + 1 + 1 + 1) ⟨0, 0, 0, 0⟩ none 0 0 ∧ Below w.heap.size w W0) := by
    subst hW0
    exact ⟨(((Rc.Has4.new rfl _ _ _ _ _).alloc _).alloc _).alloc _, ((Rc.Has4.new (by simp) _ _ _ _ _).alloc _).alloc _, (Rc.Has4.new (by simp) _ _ _ _ _).alloc _, Has5.new (by simp) _ _ _ _ _ _ _ _, ((((Below.refl _ _).alloc (Nat.le_refl _) _).alloc (by simp) _).alloc (by simp; omega) _).alloc (by simp; omega) _⟩
  obtain ⟨Q, hQ⟩ : ∃ Q, Q = orN A := ⟨_, rfl⟩
  have HQ := hid hQ
  have HU : Hid (wid Q * hei Q ≤ 5000 ∧ Ok Q ∧ (Q = nil ∨ empB Q = false)) := by
    have := buf_new ho ha
    rw [hQ]
    exact ⟨this.2.1, ok_orN ho, this.2.2⟩
  have HH := hid (And.intro ho ha)
  rw [← hQ]
  clear hQ ho ha
  have z0 : (-4398046511104 : Int) ≤ 0 ∧ (0 : Int) ≤ 4398046511104 := by omega
  have HZ := hid z0
  clear z0
  go_enter Try.func25, Try.ntmps25
  go_wp2
  rw [← hW0]
  clear hW0
  have hS : S12 w.heap.size A r p W0 := ⟨HA.out.1.c0, HA.out.1.c1, HA.out.1.c2, HA.out.1.c3, HA.out.2.1.c0, HA.out.2.1.c1, HA.out.2.1.c2, HA.out.2.1.c3, HA.out.2.2.1.c0, HA.out.2.2.1.c1, HA.out.2.2.1.c2, HA.out.2.2.1.c3⟩
  go_region_held3 (fun w' => w'.cell? ⟨w.heap.size, 0, none⟩ = some (.int .i64 A.x0) ∧ w'.cell? ⟨w.heap.size, 1, none⟩ = some (.int .i64 A.y0) ∧ w'.cell? ⟨w.heap.size, 2, none⟩ = some (.int .i64 A.x1) ∧ w'.cell? ⟨w.heap.size, 3, none⟩ = some (.int .i64 A.y1) ∧ w'.cell? ⟨(w.heap.size + 1), 0, none⟩ = some (.int .u8 p.c0) ∧ w'.cell? ⟨(w.heap.size + 1), 1, none⟩ = some (.int .u8 p.c1) ∧ w'.cell? ⟨(w.heap.size + 1), 2, none⟩ = some (.int .u8 p.c2) ∧ w'.cell? ⟨(w.heap.size + 1), 3, none⟩ = some (.int .u8 p.c3) ∧ w'.cell? ⟨(w.heap.size + 1 + 1), 0, none⟩ = some (.int .i64 r.x0) ∧ w'.cell? ⟨(w.heap.size + 1 + 1), 1, none⟩ = some (.int .i64 r.y0) ∧ w'.cell? ⟨(w.heap.size + 1 + 1), 2, none⟩ = some (.int .i64 r.x1) ∧ w'.cell? ⟨(w.heap.size + 1 + 1), 3, none⟩ = some (.int .i64 r.y1)) (repeat (first | with_reducible assumption | with_reducible refine S12_drew ?_ | with_reducible refine S12_alloc ?_ | with_reducible refine S12_set5 ?_ (by omega) (by omega) (by omega) | with_reducible refine S12_set4 ?_ (by omega) (by omega) (by omega) | with_reducible refine S12_below ?_ ‹_›))
    ((first
    | (go_at_call 49; with_reducible refine Calls.mono (refNew_any A.x0 A.y0 A.x1 A.y1 _ HH.out.1 HH.out.2) ?_; rintro e w1 ⟨hr, hb1⟩; rw [show orN ⟨A.x0, A.y0, A.x1, A.y1⟩ = Q from HQ.out.symm] at hr; obtain ⟨no, nn, nm, ng, noff, rfl, hO, hg1, hg2, hln⟩ := retG hr; rw [img_len] at hln; have HL := hid hln; have HB1 := hid (Rc.via HA.out.2.2.2.2.drew hb1); have HZ1 := hid ((HA.out.2.2.2.1.below (Below.refl _ _).drew).below hb1); have HO1 := hid hO; clear hr hO hg1 hg2 hln)
    | (go_at_call 51; with_reducible refine Calls.mono (refFill_any Q no nn nm ng noff (fun _ _ => noX) r.x0 r.y0 r.x1 r.y1 p _ HU.out.2.1 HU.out.2.2 (HL.out ▸ HU.out.1) HO1.out.v) ?_; rintro e w2 ⟨hr, hb2⟩; obtain ⟨ro, rn, rm, rg, roff, rfl, hO, hg1, hg2, hln⟩ := retG hr; have HB2 := hid (Rc.via HB1.out hb2); have HZ2 := hid (HZ1.out.below hb2); have HO2 := hid (And.intro hO hg1); have hz2 := HZ1.out.lt; clear hr hO hg1 hg2 hln; obtain ⟨z0, z1, z2, z3, z4, zf⟩ := HZ2.out)))
  go_wp2
  obtain ⟨s0, s1, s2, s3, s4⟩ := set5 z0 z1 z2 z3 z4 (.int .i64 Q.x0) (.int .i64 Q.y0) (.int .i64 Q.x1) (.int .i64 Q.y1) (.slice ro rn rm)
  refine bodyPost_ret (v := .agg #[.int .i64 Q.x0, .int .i64 Q.y0, .int .i64 Q.x1, .int .i64 Q.y1, .slice ro rn rm]) (by simp [results, Try.results25, go_sem, s0, s1, s2, s3, s4]) rfl ⟨⟨_, _, _, rg, roff, rfl, ?_⟩, ?_⟩
  · have hlo := HB1.out.size
    exact (HO2.out.1.but (but_set5 _ _ _ _ _ _ _) (fun _ => by have := HO2.out.2; omega)).mono hlo
  · exact below_set5 HB2.out (by omega) _ _ _ _ _

set_option maxRecDepth 100000 in
set_option maxHeartbeats 2000000 in
theorem offset_any (B : R) (ao : Option Addr) (n m g off : Nat) (f : Int → Int → X) (A : R) (dx dy : Int) (w : World) (hn : n ≤ 5000) (hb : bufB B n = true) (h : Vx w ao n m g off (img B f)) (ho : Ok A) (ha : area A ≤ 5000) (hdx : -4398046511104 ≤ dx ∧ dx ≤ 4398046511104) (hdy : -4398046511104 ≤ dy ∧ dy ≤ 4398046511104) :
    Calls Try.prog 20 #[.agg #[.int .i64 B.x0, .int .i64 B.y0, .int .i64 B.x1, .int .i64 B.y1, .slice ao n m], .agg #[.int .i64 A.x0, .int .i64 A.y0, .int .i64 A.x1, .int .i64 A.y1], .int .i64 dx, .int .i64 dy] w fun e w' => RetB w.heap.size w' e (orN A) (img (orN A) (fun x y => atX B f (x - dx) (y - dy))) ∧ Below w.heap.size w w' := by
  obtain ⟨W0, hW0⟩ : ∃ W0, W0 = (((w.alloc (.cells #[.int .i64 B.x0, .int .i64 B.y0, .int .i64 B.x1, .int .i64 B.y1, .slice ao n m] 26)).alloc (.cells #[.int .i64 A.x0, .int .i64 A.y0, .int .i64 A.x1, .int .i64 A.y1] 23)).alloc (.cells #[.int .i64 0, .int .i64 0, .int .i64 0, .int .i64 0, .slice none 0 0] 26)) := ⟨_, rfl⟩
  have HA : Hid (Has5 W0 w.heap.size B ao n m ∧ Rc.Has4 W0 (w.heap.size + 1) (.int .i64 A.x0) (.int .i64 A.y0) (.int .i64 A.x1) (.int .i64 A.y1) ∧ Has5 W0 (w.heap.size + 1 + 1) ⟨0, 0, 0, 0⟩ none 0 0 ∧ Below w.heap.size w W0) := by
    subst hW0
    exact ⟨((Has5.new rfl _ _ _ _ _ _ _ _).alloc _).alloc _, (Rc.Has4.new (by simp) _ _ _ _ _).alloc _, Has5.new (by simp) _ _ _ _ _ _ _ _, ((((Below.refl _ _).alloc (Nat.le_refl _) _).alloc (by simp) _).alloc (by simp; omega) _)⟩
  subst hW0
  obtain ⟨q0, q1, q2, q3, qf⟩ := HA.out.2.1
  obtain ⟨Q, hQ⟩ : ∃ Q, Q = orN A := ⟨_, rfl⟩
  have HQ := hid hQ
  have HU : Hid (bufB Q (wid Q * hei Q) = true ∧ wid Q * hei Q ≤ 5000 ∧ Ok Q) := by
    have := buf_new ho ha
    rw [hQ]
    exact ⟨this.1, this.2.1, ok_orN ho⟩
  have HH := hid (And.intro ho (And.intro ha (And.intro h hb)))
  rw [← hQ]
  clear hQ h hb ho ha
  have HZ := hid (And.intro hdx hdy)
  clear hdx hdy
  go_enter Try.func20, Try.ntmps20
  go_wp2_with (first
    | (go_at_call 36; with_reducible refine Calls.mono (new_any A.x0 A.y0 A.x1 A.y1 _ HH.out.1 HH.out.2.1) ?_; rintro e w1 ⟨hr, hb1⟩; rw [show orN ⟨A.x0, A.y0, A.x1, A.y1⟩ = Q from HQ.out.symm] at hr; obtain ⟨no, nn, nm, ng, noff, rfl, hO, hg1, hg2, hln⟩ := retG hr; rw [img_len] at hln; have HL := hid (And.intro hg1 (And.intro hg2 hln)); have HB2 := hid ((Rc.via HA.out.2.2.2 hb1).alloc (Rc.via HA.out.2.2.2 hb1).size (.cells #[.int .i64 Q.x0, .int .i64 Q.y0, .int .i64 Q.x1, .int .i64 Q.y1, .slice no nn nm] 26)); have H02 := hid ((HA.out.1.below hb1).alloc (.cells #[.int .i64 Q.x0, .int .i64 Q.y0, .int .i64 Q.x1, .int .i64 Q.y1, .slice no nn nm] 26)); have H22 := hid ((HA.out.2.2.1.below hb1).alloc (.cells #[.int .i64 Q.x0, .int .i64 Q.y0, .int .i64 Q.x1, .int .i64 Q.y1, .slice no nn nm] 26)); have HN2 := hid (Has5.new (W := w1) (k := w1.heap.size) rfl Q.x0 Q.y0 Q.x1 Q.y1 no nn nm 26); have HO2 := hid (hO.below ((Below.refl _ _).alloc (Nat.le_refl _) (.cells #[.int .i64 Q.x0, .int .i64 Q.y0, .int .i64 Q.x1, .int .i64 Q.y1, .slice no nn nm] 26))); have hz1 := hb1.size; clear hr hb1 hO hg1 hg2 hln q0 q1 q2 q3 qf; obtain ⟨r0, r1, r2, r3, r4, rf⟩ := H02.out)
    | (go_at_call 41; with_reducible refine Calls.mono (copy_any _ w1.heap.size ng noff nn nm no Q (fun _ _ => noX) B ao n m g off f Q.x0 Q.y0 Q.x1 Q.y1 dx dy _ (HL.out.2.2 ▸ HU.out.2.1) (HL.out.2.2 ▸ HU.out.1) HN2.out HO2.out (fun hm => Nat.ne_of_gt (HL.out.2.1 hm)) hn HH.out.2.2.2 (HH.out.2.2.1.below HB2.out) (fun hm hn0 => win_lt3 (vx_lt HH.out.2.2.1 hn0) HL.out.1) HZ.out.1 HZ.out.2) ?_; rintro e w3 ⟨rfl, h53, hO3, hbu⟩; have HE3 := hid (And.intro h53 (And.intro hO3 hbu)); have HZ3 := hid (H22.out.but hbu (win_ne2' HL.out.1)); clear h53 hO3 hbu; clear r0 r1 r2 r3 r4 rf; obtain ⟨r0, r1, r2, r3, r4, rf⟩ := HE3.out.1; obtain ⟨z0, z1, z2, z3, z4, zf⟩ := HZ3.out))
  obtain ⟨s0, s1, s2, s3, s4⟩ := set5 z0 z1 z2 z3 z4 (.int .i64 Q.x0) (.int .i64 Q.y0) (.int .i64 Q.x1) (.int .i64 Q.y1) (.slice no nn nm)
  refine bodyPost_ret (v := .agg #[.int .i64 Q.x0, .int .i64 Q.y0, .int .i64 Q.x1, .int .i64 Q.y1, .slice no nn nm]) (by simp [results, Try.results20, go_sem, s0, s1, s2, s3, s4]) rfl ⟨⟨_, _, _, ng, noff, rfl, ?_⟩, ?_⟩
  · have h1 := HE3.out.2.1
    rw [show (⟨Q.x0, Q.y0, Q.x1, Q.y1⟩ : R) = Q from rfl, HQ.out, copy_boxN, ← HQ.out] at h1
    exact (h1.but (but_set5 _ _ _ _ _ _ _) (fun _ => Ne.symm (win_ne2' HL.out.1))).mono HA.out.2.2.2.size
  · exact below_set5 (HB2.out.trans (HE3.out.2.2.low (Nat.le_trans HA.out.2.2.2.size HL.out.1) HB2.out.size)) (by omega) _ _ _ _ _

set_option maxRecDepth 100000 in
set_option maxHeartbeats 2000000 in
theorem clip_any (B : R) (ao : Option Addr) (n m g off : Nat) (f : Int → Int → X) (A r : R) (w : World) (hn : n ≤ 5000) (hb : bufB B n = true) (h : Vx w ao n m g off (img B f)) (ho : Ok A) (ha : area A ≤ 5000) :
    Calls Try.prog 22 #[.agg #[.int .i64 B.x0, .int .i64 B.y0, .int .i64 B.x1, .int .i64 B.y1, .slice ao n m], .agg #[.int .i64 A.x0, .int .i64 A.y0, .int .i64 A.x1, .int .i64 A.y1], .agg #[.int .i64 r.x0, .int .i64 r.y0, .int .i64 r.x1, .int .i64 r.y1]] w fun e w' => RetB w.heap.size w' e (orN A) (img (orN A) (copyG r (atX B f) 0 0 fun _ _ => noX)) ∧ Below w.heap.size w w' := by
  obtain ⟨W0, hW0⟩ : ∃ W0, W0 = ((((w.alloc (.cells #[.int .i64 B.x0, .int .i64 B.y0, .int .i64 B.x1, .int .i64 B.y1, .slice ao n m] 26)).alloc (.cells #[.int .i64 A.x0, .int .i64 A.y0, .int .i64 A.x1, .int .i64 A.y1] 23)).alloc (.cells #[.int .i64 r.x0, .int .i64 r.y0, .int .i64 r.x1, .int .i64 r.y1] 23)).alloc (.cells #[.int .i64 0, .int .i64 0, .int .i64 0, .int .i64 0, .slice none 0 0] 26)) := ⟨_, rfl⟩
  have HA : Hid (Has5 W0 w.heap.size B ao n m ∧ Rc.Has4 W0 (w.heap.size + 1) (.int .i64 A.x0) (.int .i64 A.y0) (.int .i64 A.x1) (.int .i64 A.y1) ∧ Rc.Has4 W0 (w.heap.size + 1 + 1) (.int .i64 r.x0) (.int .i64 r.y0) (.int .i64 r.x1) (.int .i64 r.y1) ∧ Has5 W0 (w.heap.size + 1 + 1 + 1) ⟨0, 0, 0, 0⟩ none 0 0 ∧ Below w.heap.size w W0) := by
    subst hW0
    exact ⟨(((Has5.new rfl _ _ _ _ _ _ _ _).alloc _).alloc _).alloc _, ((Rc.Has4.new (by simp) _ _ _ _ _).alloc _).alloc _, (Rc.Has4.new (by simp) _ _ _ _ _).alloc _, Has5.new (by simp) _ _ _ _ _ _ _ _, (((((Below.refl _ _).alloc (Nat.le_refl _) _).alloc (by simp) _).alloc (by simp; omega) _).alloc (by simp; omega) _)⟩
  subst hW0
  obtain ⟨q0, q1, q2, q3, qf⟩ := HA.out.2.1
  obtain ⟨Q, hQ⟩ : ∃ Q, Q = orN A := ⟨_, rfl⟩
  have HQ := hid hQ
  have HU : Hid (bufB Q (wid Q * hei Q) = true ∧ wid Q * hei Q ≤ 5000 ∧ Ok Q) := by
    have := buf_new ho ha
    rw [hQ]
    exact ⟨this.1, this.2.1, ok_orN ho⟩
  have HH := hid (And.intro ho (And.intro ha (And.intro h hb)))
  rw [← hQ]
  clear hQ h hb ho ha
  have z0 : (-4398046511104 : Int) ≤ 0 ∧ (0 : Int) ≤ 4398046511104 := by omega
  have HZ := hid z0
  clear z0
  go_enter Try.func22, Try.ntmps22
  go_wp2_with (first
    | (go_at_call 36; with_reducible refine Calls.mono (new_any A.x0 A.y0 A.x1 A.y1 _ HH.out.1 HH.out.2.1) ?_; rintro e w1 ⟨hr, hb1⟩; rw [show orN ⟨A.x0, A.y0, A.x1, A.y1⟩ = Q from HQ.out.symm] at hr; obtain ⟨no, nn, nm, ng, noff, rfl, hO, hg1, hg2, hln⟩ := retG hr; rw [img_len] at hln; have HL := hid (And.intro hg1 (And.intro hg2 hln)); have HB2 := hid ((Rc.via HA.out.2.2.2.2 hb1).alloc (Rc.via HA.out.2.2.2.2 hb1).size (.cells #[.int .i64 Q.x0, .int .i64 Q.y0, .int .i64 Q.x1, .int .i64 Q.y1, .slice no nn nm] 26)); have H02 := hid ((HA.out.1.below hb1).alloc (.cells #[.int .i64 Q.x0, .int .i64 Q.y0, .int .i64 Q.x1, .int .i64 Q.y1, .slice no nn nm] 26)); have H22 := hid ((HA.out.2.2.1.below hb1).alloc (.cells #[.int .i64 Q.x0, .int .i64 Q.y0, .int .i64 Q.x1, .int .i64 Q.y1, .slice no nn nm] 26)); have H32 := hid ((HA.out.2.2.2.1.below hb1).alloc (.cells #[.int .i64 Q.x0, .int .i64 Q.y0, .int .i64 Q.x1, .int .i64 Q.y1, .slice no nn nm] 26)); have HN2 := hid (Has5.new (W := w1) (k := w1.heap.size) rfl Q.x0 Q.y0 Q.x1 Q.y1 no nn nm 26); have HO2 := hid (hO.below ((Below.refl _ _).alloc (Nat.le_refl _) (.cells #[.int .i64 Q.x0, .int .i64 Q.y0, .int .i64 Q.x1, .int .i64 Q.y1, .slice no nn nm] 26))); have hz1 := hb1.size; clear hr hb1 hO hg1 hg2 hln q0 q1 q2 q3 qf; obtain ⟨r0, r1, r2, r3, r4, rf⟩ := H02.out; obtain ⟨t0, t1, t2, t3, tf⟩ := H22.out)
    | (go_at_call 41; with_reducible refine Calls.mono (copy_any _ w1.heap.size ng noff nn nm no Q (fun _ _ => noX) B ao n m g off f r.x0 r.y0 r.x1 r.y1 0 0 _ (HL.out.2.2 ▸ HU.out.2.1) (HL.out.2.2 ▸ HU.out.1) HN2.out HO2.out (fun hm => Nat.ne_of_gt (HL.out.2.1 hm)) hn HH.out.2.2.2 (HH.out.2.2.1.below HB2.out) (fun hm hn0 => win_lt4 (vx_lt HH.out.2.2.1 hn0) HL.out.1) HZ.out HZ.out) ?_; rintro e w3 ⟨rfl, h53, hO3, hbu⟩; have HE3 := hid (And.intro h53 (And.intro hO3 hbu)); have HZ3 := hid (H32.out.but hbu (win_ne3 HL.out.1).2.2.2); clear h53 hO3 hbu; clear r0 r1 r2 r3 r4 rf t0 t1 t2 t3 tf; obtain ⟨r0, r1, r2, r3, r4, rf⟩ := HE3.out.1; obtain ⟨z0, z1, z2, z3, z4, zf⟩ := HZ3.out))
  obtain ⟨s0, s1, s2, s3, s4⟩ := set5 z0 z1 z2 z3 z4 (.int .i64 Q.x0) (.int .i64 Q.y0) (.int .i64 Q.x1) (.int .i64 Q.y1) (.slice no nn nm)
  refine bodyPost_ret (v := .agg #[.int .i64 Q.x0, .int .i64 Q.y0, .int .i64 Q.x1, .int .i64 Q.y1, .slice no nn nm]) (by simp [results, Try.results22, go_sem, s0, s1, s2, s3, s4]) rfl ⟨⟨_, _, _, ng, noff, rfl, ?_⟩, ?_⟩
  · have h1 := HE3.out.2.1
    exact (h1.but (but_set5 _ _ _ _ _ _ _) (fun _ => Ne.symm (win_ne3 HL.out.1).2.2.2)).mono HA.out.2.2.2.2.size
  · exact below_set5 (HB2.out.trans (HE3.out.2.2.low (Nat.le_trans HA.out.2.2.2.2.size HL.out.1) HB2.out.size)) (by omega) _ _ _ _ _

set_option maxRecDepth 100000 in
set_option maxHeartbeats 2000000 in
theorem flood_any (A r : R) (p : X) (w : World) (ho : Ok A) (ha : area A ≤ 5000) :
    Calls Try.prog 24 #[.agg #[.int .i64 A.x0, .int .i64 A.y0, .int .i64 A.x1, .int .i64 A.y1], .agg #[.int .u8 p.c0, .int .u8 p.c1, .int .u8 p.c2, .int .u8 p.c3], .agg #[.int .i64 r.x0, .int .i64 r.y0, .int .i64 r.x1, .int .i64 r.y1]] w fun e w' => RetB w.heap.size w' e (orN A) (img (orN A) (fillG r p fun _ _ => noX)) ∧ Below w.heap.size w w' := by
  obtain ⟨W0, hW0⟩ : ∃ W0, W0 = ((((w.alloc (.cells #[.int .i64 A.x0, .int .i64 A.y0, .int .i64 A.x1, .int .i64 A.y1] 23)).alloc (.cells #[.int .u8 p.c0, .int .u8 p.c1, .int .u8 p.c2, .int .u8 p.c3] 28)).alloc (.cells #[.int .i64 r.x0, .int .i64 r.y0, .int .i64 r.x1, .int .i64 r.y1] 23)).alloc (.cells #[.int .i64 0, .int .i64 0, .int .i64 0, .int .i64 0, .slice none 0 0] 26)) := ⟨_, rfl⟩
  have HA : Hid (Rc.Has4 W0 w.heap.size (.int .i64 A.x0) (.int .i64 A.y0) (.int .i64 A.x1) (.int .i64 A.y1) ∧ Rc.Has4 W0 (w.heap.size + 1) (.int .u8 p.c0) (.int .u8 p.c1) (.int .u8 p.c2) (.int .u8 p.c3) ∧ Rc.Has4 W0 (w.heap.size + 1 + 1) (.int .i64 r.x0) (.int .i64 r.y0) (.int .i64 r.x1) (.int .i64 r.y1) ∧ Has5 W0 (w.heap.size + 1 + 1 + 1) ⟨0, 0, 0, 0⟩ none 0 0 ∧ Below w.heap.size w W0) := by
    subst hW0
    exact ⟨(((Rc.Has4.new rfl _ _ _ _ _).alloc _).alloc _).alloc _, ((Rc.Has4.new (by simp) _ _ _ _ _).alloc _).alloc _, (Rc.Has4.new (by simp) _ _ _ _ _).alloc _, Has5.new (by simp) _ _ _ _ _ _ _ _, (((((Below.refl _ _).alloc (Nat.le_refl _) _).alloc (by simp) _).alloc (by simp; omega) _).alloc (by simp; omega) _)⟩
  subst hW0
  obtain ⟨q0, q1, q2, q3, qf⟩ := HA.out.1
  obtain ⟨Q, hQ⟩ : ∃ Q, Q = orN A := ⟨_, rfl⟩
  have HQ := hid hQ
  have HU : Hid (bufB Q (wid Q * hei Q) = true ∧ wid Q * hei Q ≤ 5000 ∧ Ok Q) := by
    have := buf_new ho ha
    rw [hQ]
    exact ⟨this.1, this.2.1, ok_orN ho⟩
  have HH := hid (And.intro ho ha)
  rw [← hQ]
  clear hQ ho ha
  go_enter Try.func24, Try.ntmps24
  go_wp2_with (first
    | (go_at_call 36; with_reducible refine Calls.mono (new_any A.x0 A.y0 A.x1 A.y1 _ HH.out.1 HH.out.2) ?_; rintro e w1 ⟨hr, hb1⟩; rw [show orN ⟨A.x0, A.y0, A.x1, A.y1⟩ = Q from HQ.out.symm] at hr; obtain ⟨no, nn, nm, ng, noff, rfl, hO, hg1, hg2, hln⟩ := retG hr; rw [img_len] at hln; have HL := hid (And.intro hg1 (And.intro hg2 hln)); have HB2 := hid ((Rc.via HA.out.2.2.2.2 hb1).alloc (Rc.via HA.out.2.2.2.2 hb1).size (.cells #[.int .i64 Q.x0, .int .i64 Q.y0, .int .i64 Q.x1, .int .i64 Q.y1, .slice no nn nm] 26)); have H12 := hid ((HA.out.2.1.below hb1).alloc (.cells #[.int .i64 Q.x0, .int .i64 Q.y0, .int .i64 Q.x1, .int .i64 Q.y1, .slice no nn nm] 26)); have H22 := hid ((HA.out.2.2.1.below hb1).alloc (.cells #[.int .i64 Q.x0, .int .i64 Q.y0, .int .i64 Q.x1, .int .i64 Q.y1, .slice no nn nm] 26)); have H32 := hid ((HA.out.2.2.2.1.below hb1).alloc (.cells #[.int .i64 Q.x0, .int .i64 Q.y0, .int .i64 Q.x1, .int .i64 Q.y1, .slice no nn nm] 26)); have HN2 := hid (Has5.new (W := w1) (k := w1.heap.size) rfl Q.x0 Q.y0 Q.x1 Q.y1 no nn nm 26); have HO2 := hid (hO.below ((Below.refl _ _).alloc (Nat.le_refl _) (.cells #[.int .i64 Q.x0, .int .i64 Q.y0, .int .i64 Q.x1, .int .i64 Q.y1, .slice no nn nm] 26))); have hz1 := hb1.size; clear hr hb1 hO hg1 hg2 hln q0 q1 q2 q3 qf; obtain ⟨r0, r1, r2, r3, rf⟩ := H12.out; obtain ⟨t0, t1, t2, t3, tf⟩ := H22.out)
    | (go_at_call 50; with_reducible refine Calls.mono (fill_any _ w1.heap.size ng noff nn nm no Q (fun _ _ => noX) r.x0 r.y0 r.x1 r.y1 p _ (HL.out.2.2 ▸ HU.out.2.1) (HL.out.2.2 ▸ HU.out.1) HN2.out HO2.out (fun hm => Nat.ne_of_gt (HL.out.2.1 hm))) ?_; rintro e w3 ⟨rfl, h53, hO3, hbu⟩; have HE3 := hid (And.intro h53 (And.intro hO3 hbu)); have HZ3 := hid (H32.out.but hbu (win_ne3 HL.out.1).2.2.2); clear h53 hO3 hbu; clear r0 r1 r2 r3 rf t0 t1 t2 t3 tf; obtain ⟨r0, r1, r2, r3, r4, rf⟩ := HE3.out.1; obtain ⟨z0, z1, z2, z3, z4, zf⟩ := HZ3.out))
  obtain ⟨s0, s1, s2, s3, s4⟩ := set5 z0 z1 z2 z3 z4 (.int .i64 Q.x0) (.int .i64 Q.y0) (.int .i64 Q.x1) (.int .i64 Q.y1) (.slice no nn nm)
  refine bodyPost_ret (v := .agg #[.int .i64 Q.x0, .int .i64 Q.y0, .int .i64 Q.x1, .int .i64 Q.y1, .slice no nn nm]) (by simp [results, Try.results24, go_sem, s0, s1, s2, s3, s4]) rfl ⟨⟨_, _, _, ng, noff, rfl, ?_⟩, ?_⟩
  · have h1 := HE3.out.2.1
    exact (h1.but (but_set5 _ _ _ _ _ _ _) (fun _ => Ne.symm (win_ne3 HL.out.1).2.2.2)).mono HA.out.2.2.2.2.size
  · exact below_set5 (HB2.out.trans (HE3.out.2.2.low (Nat.le_trans HA.out.2.2.2.2.size HL.out.1) HB2.out.size)) (by omega) _ _ _ _ _

end Go.Proofs.Ytfgfgfmimejpdaa
