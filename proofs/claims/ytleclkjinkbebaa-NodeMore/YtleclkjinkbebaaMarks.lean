/- A filter that is held in a block of its own, with marks beside it. -/
import Derived.Test.YtleclkjinkbebaaSmall
import Derived.Test.YtleclkjinkbebaaNeedNum
namespace Go.Proofs.Ytleclkjinkbebaa
open Num Go.RowKit
set_option linter.unusedVariables false
set_option linter.unusedSimpArgs false

/-- a filter's two cells -/
structure Bx (w : World) (k : Nat) (ao : Option Addr) (n c : Nat) (out : Int) : Prop where
  c0 : w.cell? ⟨k, 0, none⟩ = some (.slice ao n c)
  c1 : w.cell? ⟨k, 1, none⟩ = some (.int .i64 out)
theorem Bx.below {W w : World} {k : Nat} {ao : Option Addr} {n c : Nat} {out : Int} (h : Bx W k ao n c out) (hb : Below W.heap.size W w) : Bx w k ao n c out := ⟨cell_below hb h.c0, cell_below hb h.c1⟩
theorem Bx.lt {W : World} {k : Nat} {ao : Option Addr} {n c : Nat} {out : Int} (h : Bx W k ao n c out) : k < W.heap.size := World.block_lt_of_cell? _ _ h.c0
theorem Bx.but {g : Nat} {W w : World} {k : Nat} {ao : Option Addr} {n c : Nat} {out : Int} (h : Bx W k ao n c out) (hb : But g W w) (hk : k ≠ g) : Bx w k ao n c out :=
  ⟨(World.cell?_of_block (a := ⟨k, 0, none⟩) (hb.block k h.lt hk)).trans h.c0, (World.cell?_of_block (a := ⟨k, 1, none⟩) (hb.block k h.lt hk)).trans h.c1⟩
theorem bx_new (w : World) (ao : Option Addr) (n c : Nat) (out : Int) (t : TypeId) : Bx (w.alloc (.cells #[.slice ao n c, .int .i64 out] t)) w.heap.size ao n c out :=
  ⟨World.cell?_alloc_new w _ _ 0, World.cell?_alloc_new w _ _ 1⟩
theorem cell_alloc {w : World} {k o : Nat} {v : Value} (x : Obj) (h : w.cell? ⟨k, o, none⟩ = some v) : (w.alloc x).cell? ⟨k, o, none⟩ = some v := cell_below ((Below.refl _ _).alloc (Nat.le_refl _) x) h

theorem ot_set0 {B : Nat} {w : World} {ao : Option Addr} {n c b : Nat} {l : List Bool} (h : Ot B w ao n c b 0 l) {i : Nat} (hi : i < n) (v : Bool) : Ot B (w.setCell ⟨b, i, none⟩ (.bool v)) ao n c b 0 (l.set i v) := by
  have := ot_set h hi v
  rw [Nat.zero_add] at this
  exact this
theorem ot_bt0 {B : Nat} {w : World} {ao : Option Addr} {n c b : Nat} {l : List Bool} (h : Ot B w ao n c b 0 l) {i : Nat} (hi : i < n) : w.cell? ⟨b, i, none⟩ = some (.bool (bt l i)) := by
  have := (vt_at h.v (bt_get (i := i) (by rw [vt_len h.v]; exact hi))).2
  rw [Nat.zero_add] at this
  exact this
theorem ot_fz0 {B : Nat} {w : World} {ao : Option Addr} {n c b : Nat} {l : List Bool} (h : Ot B w ao n c b 0 l) {i : Nat} (hi : i < n) : w.frozen? ⟨b, i, none⟩ = false := by
  have := ot_fz h hi
  rw [Nat.zero_add] at this
  exact this
/-- the filter in block k, the marks in block g -/
structure Mk (w : World) (k g : Nat) (ao : Option Addr) (n c : Nat) (out : Int) (D : List Bool) (wr : World) : Prop where
  low : Below w.heap.size w wr
  bx : Bx wr k ao n c out
  hk : w.heap.size ≤ k
  d : Ot w.heap.size wr (some ⟨g, 0, none⟩) n n g 0 D
  ne : k ≠ g
  hg : w.heap.size ≤ g
theorem mk_start (w : World) (ao : Option Addr) (n c : Nat) (out : Int) (hn : n ≤ 1000) :
    Mk w w.heap.size (w.heap.size + 1) ao n c out (List.replicate n false) ((w.alloc (.cells #[.slice ao n c, .int .i64 out] 24)).alloc (.cells (bools (List.replicate n false)).toArray 4)) := by
  have hd := ot_news (lo := w.heap.size) (w := w.alloc (.cells #[.slice ao n c, .int .i64 out] 24)) (by simp) (List.replicate n false) (by simp; omega) 4
  have e : (w.alloc (.cells #[.slice ao n c, .int .i64 out] 24)).heap.size = w.heap.size + 1 := by simp
  rw [e, List.length_replicate] at hd
  exact ⟨((Below.refl _ _).alloc (Nat.le_refl _) _).alloc (by simp) _, (bx_new w ao n c out 24).below ((Below.refl _ _).alloc (Nat.le_refl _) _), Nat.le_refl _, hd, by omega, by omega⟩
theorem Mk.below {w : World} {k g : Nat} {ao : Option Addr} {n c : Nat} {out : Int} {D : List Bool} {wr w' : World} (h : Mk w k g ao n c out D wr) (hb : Below wr.heap.size wr w') : Mk w k g ao n c out D w' :=
  ⟨via (w := w) h.low hb, h.bx.below hb, h.hk, h.d.below hb, h.ne, h.hg⟩
theorem mk_set {w : World} {k g : Nat} {ao : Option Addr} {n c : Nat} {out : Int} {D : List Bool} {wr : World} (h : Mk w k g ao n c out D wr) {i : Nat} (hi : i < n) (v : Bool) : Mk w k g ao n c out (D.set i v) (wr.setCell ⟨g, i, none⟩ (.bool v)) :=
  ⟨h.low.setCell (p := ⟨g, i, none⟩) h.hg _, h.bx.but (but_set (But.refl _ _) _ _) h.ne, h.hk, ot_set0 h.d hi v, h.ne, h.hg⟩
theorem Mk.len {w : World} {k g : Nat} {ao : Option Addr} {n c : Nat} {out : Int} {D : List Bool} {wr : World} (h : Mk w k g ao n c out D wr) : D.length = n := vt_len h.d.v
end Go.Proofs.Ytleclkjinkbebaa
