import Derived.Test.YtamojciiacmjaaaDoorChecked
import Derived.Test.YtamojciiacmjaaaDoorPlainA
import Derived.WalkKit
import Derived.WalkLawsBesides
import Derived.Outline
import Derived.Handy
import Derived.Deep.AppendSrc
import Derived.Laws.MakeOwn
import Derived.Deep.RegionLaw
import Derived.BigRegion
import Derived.Laws.IdiomCopy
import Derived.Deep.LoopGhost
import Derived.Deep.Light
import Derived.BigQuiet
/- Slices in memory: where their cells lie, and what an append makes of them. -/
namespace Go.Proofs.YtamojciiacmjaaaDoor
open Num Go.RowKit
set_option linter.unusedVariables false

/-- the cells lie there, one behind the other -/
def Lies (w : World) (b off : Nat) (cs : List Value) : Prop := ∀ j u, cs[j]? = some u → w.cell? ⟨b, off + j, none⟩ = some u

theorem Lies.lt {w : World} {b off : Nat} {cs : List Value} (h : Lies w b off cs) (hn : 0 < cs.length) : b < w.heap.size :=
  World.block_lt_of_cell? w ⟨b, off + 0, none⟩ (h 0 _ (List.getElem?_eq_getElem hn))
theorem Lies.block {w w' : World} {b off : Nat} {cs : List Value} (h : Lies w b off cs) (e : w'.heap[b]? = w.heap[b]?) : Lies w' b off cs :=
  fun j u hu => (World.cell?_of_block (a := ⟨b, off + j, none⟩) e).trans (h j u hu)
theorem Lies.below {W w : World} {b off : Nat} {cs : List Value} (h : Lies W b off cs) (hb : Below W.heap.size W w) : Lies w b off cs := by
  intro j u hu
  have hj : j < cs.length := (List.getElem?_eq_some_iff.1 hu).1
  exact (World.cell?_of_block (a := ⟨b, off + j, none⟩) (hb.block b (h.lt (by omega)))).trans (h j u hu)
theorem Lies.drop {w : World} {b off : Nat} {cs : List Value} (h : Lies w b off cs) (k : Nat) : Lies w b (off + k) (cs.drop k) := by
  intro j u hu
  rw [List.getElem?_drop] at hu
  rw [show off + k + j = off + (k + j) by omega]
  exact h _ _ hu
theorem Lies.take {w : World} {b off : Nat} {cs : List Value} (h : Lies w b off cs) (k : Nat) : Lies w b off (cs.take k) := by
  intro j u hu
  rw [List.getElem?_take] at hu
  split at hu
  · exact h _ _ hu
  · cases hu
theorem lies_nil (w : World) (b off : Nat) : Lies w b off [] := fun j u hu => by simp at hu

/-- a slice's value: n elements of sz cells each, room for c, the cells cs -/
structure Vz (sz : Nat) (w : World) (ao : Option Addr) (n c b off : Nat) (cs : List Value) : Prop where
  len : cs.length = n * sz
  le : n ≤ c
  max : c ≤ maxLen
  addr : 0 < c → ao = some ⟨b, off, none⟩
  lies : Lies w b off cs

/-- .. in memory that is one's own from block B on -/
structure Oz (sz B : Nat) (w : World) (ao : Option Addr) (n c b off : Nat) (cs : List Value) : Prop where
  v : Vz sz w ao n c b off cs
  new : 0 < c → B ≤ b ∧ b < w.heap.size
  room : ∀ j, j < c * sz → (w.cell? ⟨b, off + j, none⟩).isSome = true ∧ w.frozen? ⟨b, off + j, none⟩ = false

theorem oz_nil (sz B : Nat) (w : World) (ao : Option Addr) : Oz sz B w ao 0 0 0 0 [] :=
  ⟨⟨by simp, Nat.le_refl _, by simp, fun h => absurd h (by omega), lies_nil _ _ _⟩, fun h => absurd h (by omega), fun j h => by simp at h⟩

theorem Vz.below {sz : Nat} {W w : World} {ao : Option Addr} {n c b off : Nat} {cs : List Value} (h : Vz sz W ao n c b off cs) (hb : Below W.heap.size W w) : Vz sz w ao n c b off cs :=
  ⟨h.len, h.le, h.max, h.addr, h.lies.below hb⟩
theorem Oz.block {sz B : Nat} {W w : World} {ao : Option Addr} {n c b off : Nat} {cs : List Value} (h : Oz sz B W ao n c b off cs) (hz : W.heap.size ≤ w.heap.size) (hb : 0 < c → w.heap[b]? = W.heap[b]?) : Oz sz B w ao n c b off cs := by
  by_cases hc : 0 < c
  · have e := hb hc
    refine ⟨⟨h.v.len, h.v.le, h.v.max, h.v.addr, h.v.lies.block e⟩, fun hc => ⟨(h.new hc).1, Nat.lt_of_lt_of_le (h.new hc).2 hz⟩, fun j hj => ?_⟩
    rw [World.cell?_of_block (a := ⟨b, off + j, none⟩) e, World.frozen?_of_block (a := ⟨b, off + j, none⟩) e]
    exact h.room j hj
  · obtain rfl : c = 0 := by omega
    have h0 : n = 0 := by have := h.v.le; omega
    subst h0
    have hcs : cs = [] := List.length_eq_zero_iff.1 (by have := h.v.len; omega)
    subst hcs
    exact ⟨⟨by simp, Nat.le_refl _, by simp, fun h => absurd h (by omega), lies_nil _ _ _⟩, fun h => absurd h (by omega), fun j h => by simp at h⟩
theorem Oz.below {sz B : Nat} {W w : World} {ao : Option Addr} {n c b off : Nat} {cs : List Value} (h : Oz sz B W ao n c b off cs) (hb : Below W.heap.size W w) : Oz sz B w ao n c b off cs :=
  h.block hb.size fun hc => hb.block b (h.new hc).2
theorem Oz.mono {sz B B' : Nat} {W : World} {ao : Option Addr} {n c b off : Nat} {cs : List Value} (h : Oz sz B W ao n c b off cs) (hB : B' ≤ B) : Oz sz B' W ao n c b off cs :=
  ⟨h.v, fun hc => ⟨Nat.le_trans hB (h.new hc).1, (h.new hc).2⟩, h.room⟩

theorem heap_setCells (b : Nat) : ∀ (vs : List Value) (o : Nat) (w : World) (g : Nat), g ≠ b → (w.setCells b o vs).heap[g]? = w.heap[g]?
  | [], _, _, _, _ => rfl
  | v :: r, o, w, g, h => by
    show ((w.setCell ⟨b, o, none⟩ v).setCells b (o + 1) r).heap[g]? = _
    rw [heap_setCells b r (o + 1) _ g h]
    exact Below.heap_setCell _ _ _ _ h
theorem below_setCells {B b : Nat} (hb : B ≤ b) : ∀ (vs : List Value) (o : Nat) (w : World), Below B w (w.setCells b o vs)
  | [], _, _ => Below.refl _ _
  | v :: r, o, w => ((Below.refl B w).setCell (p := ⟨b, o, none⟩) hb v).trans (below_setCells hb r (o + 1) (w.setCell ⟨b, o, none⟩ v))

section
variable {P : Program}
/-- what is appended stands behind what was there; nothing else is written but the slice's own block -/
theorem run_append_own {sz B : Nat} {w : World} {ao : Option Addr} {n c b off : Nat} {cs : List Value} (h : Oz sz B w ao n c b off cs) (hB : B ≤ w.heap.size)
    (t tx ty e : TypeId) (i : TypeInfo) (z : Value) (bytes : Nat) (ht : P.underlying t = some (.slice e)) (hi : P.info? e = some i) (hz : i.zero = some z) (hsize : i.size = sz) (hby : i.bytes = bytes) (hzs : z.cells.size = sz)
    (x : Value) (m : Nat) (news : List Value) (hs : Src P sz tx x m news w) (h63 : n + m ≤ maxLen) (hbytes : (n + m) * bytes ≤ 140737488355328) :
    ∃ ao' c' b' off' w', (Builtin.append_ #[t, tx] ty #[.slice ao n c, x]).run P w = .ok (.slice ao' (n + m) c') w' ∧ Oz sz B w' ao' (n + m) c' b' off' (cs ++ news) ∧ Below B w w' ∧
      (∀ g, g < w.heap.size → (0 < c → g ≠ b) → w'.heap[g]? = w.heap[g]?) ∧ (0 < c' → (0 < c ∧ b' = b) ∨ w.heap.size ≤ b') := by
  subst hsize
  subst hby
  have hnl := hs.newsLen
  have hcl := h.v.len
  have hle := h.v.le
  have hL : (cs ++ news).length = (n + m) * i.size := by rw [List.length_append, hcl, hnl, Nat.add_mul]
  by_cases hr : n + m ≤ c
  · by_cases hc : 0 < c
    · obtain rfl := h.v.addr hc
      have hmul : (n + m) * i.size ≤ c * i.size := Nat.mul_le_mul_right _ hr
      have hcell : ∀ j, j < news.length → (w.cell? ⟨b, off + n * i.size + j, none⟩).isSome = true ∧ w.frozen? ⟨b, off + n * i.size + j, none⟩ = false := by
        intro j hj
        rw [show off + n * i.size + j = off + (n * i.size + j) by omega]
        exact h.room _ (by rw [Nat.add_mul] at hmul; omega)
      refine ⟨some ⟨b, off, none⟩, c, b, off, _, run_append_room_src w t tx ty e i ht hi b off n c x m news hs hr (fun j hj => (hcell j hj).1) (fun j hj => (hcell j hj).2), ⟨⟨hL, hr, h.v.max, fun _ => rfl, ?_⟩, fun _ => ?_, ?_⟩, below_setCells (h.new hc).1 _ _ _, fun g _ hg => heap_setCells _ _ _ _ _ (hg hc), fun _ => Or.inl ⟨hc, rfl⟩⟩
      · intro j u hu
        by_cases hj : j < cs.length
        · rw [List.getElem?_append_left hj] at hu
          rw [World.cell?_setCells_out _ _ _ _ _ (fun _ _ => Or.inl (by dsimp only; omega))]
          exact h.v.lies j u hu
        · rw [List.getElem?_append_right (by omega)] at hu
          have hj' : j - cs.length < news.length := (List.getElem?_eq_some_iff.1 hu).1
          have := World.cell?_setCells_in b news (off + n * i.size) w (fun j hj => (hcell j hj).1) (j - cs.length) hj'
          rw [show off + n * i.size + (j - cs.length) = off + j by omega] at this
          rw [this, ← hu, List.getElem?_eq_getElem hj']
      · exact ⟨(h.new hc).1, Nat.lt_of_lt_of_le (h.new hc).2 (below_setCells (h.new hc).1 _ _ _).size⟩
      · intro j hj
        rw [World.frozen?_setCells]
        refine ⟨?_, (h.room j hj).2⟩
        by_cases hin : n * i.size ≤ j ∧ j < n * i.size + news.length
        · have := World.cell?_setCells_in b news (off + n * i.size) w (fun j hj => (hcell j hj).1) (j - n * i.size) (by omega)
          rw [show off + n * i.size + (j - n * i.size) = off + j by omega] at this
          rw [this]; rfl
        · rw [World.cell?_setCells_out _ _ _ _ _ (fun _ _ => by dsimp only; omega)]
          exact (h.room j hj).1
    · obtain rfl : c = 0 := by omega
      obtain rfl : n = 0 := by omega
      obtain rfl : m = 0 := by omega
      have hcs : cs = [] := List.length_eq_zero_iff.1 (by omega)
      have hne : news = [] := List.length_eq_zero_iff.1 (by omega)
      subst hcs
      subst hne
      refine ⟨ao, 0, 0, 0, w, ?_, oz_nil _ _ _ _, Below.refl _ _, fun _ _ _ => rfl, fun h => absurd h (by omega)⟩
      rcases hs.kind with ⟨e', hk⟩ | hk <;> cases ao <;> simp [Builtin.append_, run_underlying ht, run_underlying hk, sizeOf, typeInfo, hi, hs.len, hs.cells, storeCells]
  · have hold : (Builtin.firstCells i.size n (.slice ao n c)).run P w.drew = .ok cs.toArray w.drew := by
      by_cases hc : 0 < c
      · obtain rfl := h.v.addr hc
        refine run_firstCells_some w.drew i.size n ⟨b, off, none⟩ n c cs hcl (fun j u hu => ?_)
        rw [Addr.add_lit]
        exact h.v.lies j u hu
      · obtain rfl : n = 0 := by omega
        have hcs : cs = [] := List.length_eq_zero_iff.1 (by omega)
        subst hcs
        cases ao with
        | none => exact run_firstCells_none w.drew i.size 0 0 c
        | some a => exact run_firstCells_some w.drew i.size 0 a 0 c [] (by simp) (fun j u hu => by simp at hu)
    have hrun := run_append_grow_src (P := P) w t tx ty e i z ht hi hz ao n c cs hold x m news hs (by omega) (by simp only [maxLen] at h63; omega) (growslice_fits (by omega) hbytes)
    have hge := grownCap_ge w (n + m) c e
    have hcm := grownCap_le_maxLen w (n + m) c e h63
    have hmul : (n + m) * i.size ≤ grownCap w (n + m) c e * i.size := Nat.mul_le_mul_right _ hge
    have hblk : ∀ k, k < w.heap.size → (w.drew.alloc (.cells ((cs ++ news).toArray ++ Builtin.zeroCells z.cells (grownCap w (n + m) c e - (n + m))) e)).heap[k]? = w.heap[k]? := fun k hk => Below.heap_alloc w.drew _ k hk
    have hsz : ((cs ++ news).toArray ++ Builtin.zeroCells z.cells (grownCap w (n + m) c e - (n + m))).size = grownCap w (n + m) c e * i.size := by
      rw [Array.size_append, List.size_toArray, hL, size_zeroCells, hzs, Nat.sub_mul]; omega
    refine ⟨_, _, w.heap.size, 0, _, hrun, ⟨⟨hL, hge, hcm, fun _ => rfl, ?_⟩, fun _ => ⟨hB, by simp⟩, ?_⟩, ⟨rfl, rfl, rfl, by simp, fun k hk => hblk k (by omega)⟩, fun g hg _ => hblk g hg, fun _ => Or.inr (Nat.le_refl _)⟩
    · intro j u hu
      have hj : j < (cs ++ news).length := (List.getElem?_eq_some_iff.1 hu).1
      have e1 : (w.drew.alloc (.cells ((cs ++ news).toArray ++ Builtin.zeroCells z.cells (grownCap w (n + m) c e - (n + m))) e)).cell? ⟨w.heap.size, j, none⟩ = _ := World.cell?_alloc_new w.drew _ _ j
      rw [Nat.zero_add, e1, Array.getElem?_append_left (by simp only [List.size_toArray]; exact hj), List.getElem?_toArray]
      exact hu
    · intro j hj
      have e1 : (w.drew.alloc (.cells ((cs ++ news).toArray ++ Builtin.zeroCells z.cells (grownCap w (n + m) c e - (n + m))) e)).cell? ⟨w.heap.size, j, none⟩ = _ := World.cell?_alloc_new w.drew _ _ j
      rw [Nat.zero_add, e1]
      exact ⟨by rw [Array.getElem?_eq_getElem (by rw [hsz]; exact hj)]; rfl, World.frozen?_alloc_new w.drew _ _ j⟩
end

end Go.Proofs.YtamojciiacmjaaaDoor
/- Cells in memory that are one's own: stored into, appended to; one block alone that is written. -/
namespace Go.Proofs.YtamojciiacmjaaaDoor
open Num Go.RowKit
set_option linter.unusedVariables false
set_option linter.unusedSimpArgs false

theorem hid {p : Prop} (h : p) : Hid p := h
theorem below_drewN {B : Nat} {a w : World} (h : Below B a w) (n : Nat) : Below B a (w.drewN n) := ⟨h.os, h.tape, h.output, h.size, h.block⟩
theorem bcell {W w1 : World} (hb : Below W.heap.size W w1) : (∀ b o, b < W.heap.size → w1.cell? ⟨b, o, none⟩ = W.cell? ⟨b, o, none⟩) ∧ (∀ b o, b < W.heap.size → w1.frozen? ⟨b, o, none⟩ = W.frozen? ⟨b, o, none⟩) :=
  ⟨fun b o h => hb.cell (p := ⟨b, o, none⟩) h, fun b o h => hb.frozen (p := ⟨b, o, none⟩) h⟩
theorem via {w W1 w' : World} (h1 : Below w.heap.size w W1) (hb : Below W1.heap.size W1 w') : Below w.heap.size w w' := h1.trans (hb.mono h1.size)

theorem ret_int {k : IntKind} {a b : Int} (h : a = b) : Ending.returned (.int k a) = .returned (.int k b) := by rw [h]
theorem ret_bool {a b : Bool} (h : a = b) : Ending.returned (.bool a) = .returned (.bool b) := by rw [h]
theorem vz_small {sz : Nat} {w : World} {ao : Option Addr} {n c b off : Nat} {l : List Value} (h : Vz sz w ao n c b off l) : n ≤ 9223372036854775807 := by have h1 := h.le; have h2 := h.max; simp only [maxLen] at h2; omega

/-- one block alone is written -/
structure But (b : Nat) (w w' : World) : Prop where
  os : w'.os = w.os
  tape : w'.tape = w.tape
  output : w'.output = w.output
  size : w.heap.size ≤ w'.heap.size
  block : ∀ k, k < w.heap.size → k ≠ b → w'.heap[k]? = w.heap[k]?
theorem But.refl (b : Nat) (w : World) : But b w w := ⟨rfl, rfl, rfl, Nat.le_refl _, fun _ _ _ => rfl⟩
theorem But.trans {b : Nat} {x y z : World} (h : But b x y) (k : But b y z) : But b x z :=
  ⟨k.os.trans h.os, k.tape.trans h.tape, k.output.trans h.output, Nat.le_trans h.size k.size, fun i hi hb => (k.block i (Nat.lt_of_lt_of_le hi h.size) hb).trans (h.block i hi hb)⟩
theorem But.of {b : Nat} {w w' : World} (h : Below w.heap.size w w') : But b w w' := ⟨h.os, h.tape, h.output, h.size, fun k hk _ => h.block k hk⟩
theorem But.to {b : Nat} {w w' w'' : World} (h : But b w w') (k : Below w'.heap.size w' w'') : But b w w'' := h.trans (But.of k)
theorem But.low {b B : Nat} {w w' : World} (h : But b w w') (h1 : B ≤ b) (h2 : B ≤ w.heap.size) : Below B w w' := ⟨h.os, h.tape, h.output, h.size, fun k hk => h.block k (by omega) (by omega)⟩
theorem but_cells (b o : Nat) (vs : List Value) (w : World) : But b w (w.setCells b o vs) := by
  have h := below_setCells (B := 0) (b := b) (Nat.zero_le _) vs o w
  exact ⟨h.os, h.tape, h.output, h.size, fun k _ hk => heap_setCells b vs o w k hk⟩
theorem Vz.but {sz g : Nat} {W w : World} {ao : Option Addr} {n c b off : Nat} {cs : List Value} (h : Vz sz W ao n c b off cs) (hb : But g W w) (hg : b ≠ g) : Vz sz w ao n c b off cs := by
  refine ⟨h.len, h.le, h.max, h.addr, fun j u hu => ?_⟩
  have hj : j < cs.length := (List.getElem?_eq_some_iff.1 hu).1
  exact (World.cell?_of_block (a := ⟨b, off + j, none⟩) (hb.block b (h.lies.lt (by omega)) hg)).trans (h.lies j u hu)
theorem Oz.but {sz B g : Nat} {W w : World} {ao : Option Addr} {n c b off : Nat} {cs : List Value} (h : Oz sz B W ao n c b off cs) (hb : But g W w) (hg : 0 < c → b ≠ g) : Oz sz B w ao n c b off cs :=
  h.block hb.size fun hc => hb.block b (h.new hc).2 (hg hc)


theorem oz_set {sz B : Nat} {w : World} {ao : Option Addr} {n c b off : Nat} {cs : List Value} (h : Oz sz B w ao n c b off cs) {p : Nat} (hp : p < cs.length) (v : Value) : Oz sz B (w.setCell ⟨b, off + p, none⟩ v) ao n c b off (cs.set p v) := by
  obtain ⟨⟨h1, h2, h3, h4, h5⟩, h6, h7⟩ := h
  refine ⟨⟨by simpa using h1, h2, h3, h4, fun j u hu => ?_⟩, fun hc => ⟨(h6 hc).1, by have := (h6 hc).2; simpa [World.setCell] using this⟩, fun j hj => ?_⟩
  · rw [List.getElem?_set] at hu
    split at hu
    · rename_i e
      subst e
      first | rw [if_pos hp] at hu | skip
      rw [World.cell?_setCell_same _ _ _ (h5 p _ (List.getElem?_eq_getElem hp)), hu]
    · rename_i e
      rw [World.cell?_setCell_other _ _ _ _ (by first | (simp; omega) | (simp; done))]
      exact h5 j u hu
  · rw [World.frozen?_setCell]
    refine ⟨?_, (h7 j hj).2⟩
    by_cases e : j = p
    · subst e
      rw [World.cell?_setCell_same _ _ _ (h5 j _ (List.getElem?_eq_getElem hp))]; rfl
    · rw [World.cell?_setCell_other _ _ _ _ (by first | (simp; omega) | (simp; done))]
      exact (h7 j hj).1


theorem info_parts {e : TypeId} {z : Value} {sz bytes : Nat} (h : (Tryd.prog.info? e).map (fun i => (i.zero, i.size, i.bytes)) = some (some z, sz, bytes)) : ∃ i, Tryd.prog.info? e = some i ∧ i.zero = some z ∧ i.size = sz ∧ i.bytes = bytes := by
  cases hi : Tryd.prog.info? e with
  | none => rw [hi] at h; simp at h
  | some i =>
    rw [hi] at h
    simp at h
    exact ⟨i, rfl, h.1, h.2.1, h.2.2⟩


/-- cells in a new block -/
theorem oz_news {sz lo : Nat} {w : World} (hB : lo ≤ w.heap.size) (cs : List Value) (n : Nat) (hn : cs.length = n * sz) (hl : n ≤ 1000000) (t : TypeId) : Oz sz lo (w.alloc (.cells cs.toArray t)) (some ⟨w.heap.size, 0, none⟩) n n w.heap.size 0 cs := by
  have hc : ∀ j, (w.alloc (.cells cs.toArray t)).cell? ⟨w.heap.size, j, none⟩ = cs[j]? := fun j => by
    have := World.cell?_alloc_new w cs.toArray t j
    rw [this, List.getElem?_toArray]
  refine ⟨⟨hn, Nat.le_refl _, by simp only [maxLen]; omega, fun _ => rfl, fun j u hu => ?_⟩, fun _ => ⟨hB, by simp⟩, fun j hj => ?_⟩
  · rw [Nat.zero_add, hc]; exact hu
  · rw [Nat.zero_add, hc]
    exact ⟨by rw [List.getElem?_eq_getElem (by rw [hn]; exact hj)]; rfl, World.frozen?_alloc_new w _ _ j⟩
theorem src_of {sz : Nat} {t e : TypeId} {w : World} {ao : Option Addr} {n c b off : Nat} {cs : List Value} (h : Vz sz w ao n c b off cs) (hsz : 0 < sz) (ht : Tryd.prog.underlying t = some (.slice e)) (h1 : ∀ v ∈ cs, v.oneCell' = true) : Src Tryd.prog sz t (.slice ao n c) n cs w := by
  cases ao with
  | none =>
    have hc : c = 0 := by
      rcases Nat.eq_zero_or_pos c with h0 | h0
      · exact h0
      · have := h.addr h0; cases this
    have hn : n = 0 := by have := h.le; omega
    subst hn
    have hl : cs = [] := List.length_eq_zero_iff.1 (by have := h.len; omega)
    subst hl
    exact Src.ofNil _ ht c
  | some a =>
    refine Src.ofSlice _ ht a n c cs h.len (fun j u hu => ?_) h1
    have hj := (List.getElem?_eq_some_iff.1 hu).1
    have hn : 0 < n := by
      have := h.len
      rcases Nat.eq_zero_or_pos n with h0 | h0
      · subst h0; omega
      · exact h0
    have := h.addr (by have := h.le; omega)
    cases this
    rw [Addr.add_lit]
    exact h.lies j u hu

/-- what an append answers -/
def appA (r : Result Value) : Option Addr := match r with
  | .ok (.slice a _ _) _ => a
  | _ => none
def appC (r : Result Value) : Nat := match r with
  | .ok (.slice _ _ c) _ => c
  | _ => 0
def appW (r : Result Value) (w : World) : World := match r with
  | .ok _ w' => w'
  | _ => w
def apA (P : Program) (ts : Array TypeId) (ty : TypeId) (w : World) (v x : Value) : Option Addr := appA ((Builtin.append_ ts ty #[v, x]).run P w)
def apC (P : Program) (ts : Array TypeId) (ty : TypeId) (w : World) (v x : Value) : Nat := appC ((Builtin.append_ ts ty #[v, x]).run P w)
def apW (P : Program) (ts : Array TypeId) (ty : TypeId) (w : World) (v x : Value) : World := appW ((Builtin.append_ ts ty #[v, x]).run P w) w
/-- the append goes well -/
def Fine (P : Program) (ts : Array TypeId) (ty : TypeId) (w : World) (v x : Value) (n : Nat) : Prop := ∃ a c w', (Builtin.append_ ts ty #[v, x]).run P w = .ok (.slice a n c) w'
def lenV : Value → Nat
  | .slice _ n _ => n
  | _ => 0
theorem lenV_slice (a : Option Addr) (n c : Nat) : lenV (.slice a n c) = n := rfl
theorem run_app (ρ : Operand → Value) (dst : Option Tmp) (s x : Operand) (ts : Array TypeId) (ty : TypeId) (pos : String) (after : Array Edge) (guard : Option (Nat × Bool)) (w : World) (h : Fine Tryd.prog ts ty w (ρ s) (ρ x) (lenV (ρ s) + lenV (ρ x))) :
    (execOp ρ { dst, op := .call { callee := .builtin .append, args := #[s, x], argTypes := ts }, type := ty, pos, after, guard }).run Tryd.prog w =
      .ok (.value (.slice (apA Tryd.prog ts ty w (ρ s) (ρ x)) (lenV (ρ s) + lenV (ρ x)) (apC Tryd.prog ts ty w (ρ s) (ρ x)))) (apW Tryd.prog ts ty w (ρ s) (ρ x)) := by
  obtain ⟨a, c', w', e⟩ := h
  have e1 : execOp ρ { dst, op := .call { callee := .builtin .append, args := #[s, x], argTypes := ts }, type := ty, pos, after, guard } = (do pure (.value (← Builtin.append_ ts ty #[ρ s, ρ x]))) := by
    have e2 := BigFrame.execOp_builtin ρ dst .append #[s, x] ts ty pos after guard
    rw [e2, BigFrame.builtin_append]
    simp
  unfold apA apC apW
  rw [e1, Sem.run_bind, e]
  rfl
/-- .. in memory of one's own -/
structure App (sz B : Nat) (ts : Array TypeId) (ty : TypeId) (w : World) (ao : Option Addr) (n c b : Nat) (cs : List Value) (x : Value) (m : Nat) (news : List Value) (b' off' : Nat) : Prop where
  fine : Fine Tryd.prog ts ty w (.slice ao n c) x (n + m)
  own : Oz sz B (apW Tryd.prog ts ty w (.slice ao n c) x) (apA Tryd.prog ts ty w (.slice ao n c) x) (n + m) (apC Tryd.prog ts ty w (.slice ao n c) x) b' off' (cs ++ news)
  below : Below B w (apW Tryd.prog ts ty w (.slice ao n c) x)
  other : ∀ g, g < w.heap.size → (0 < c → g ≠ b) → (apW Tryd.prog ts ty w (.slice ao n c) x).heap[g]? = w.heap[g]?
  place : 0 < apC Tryd.prog ts ty w (.slice ao n c) x → (0 < c ∧ b' = b) ∨ w.heap.size ≤ b'
theorem app_own {sz B : Nat} {w : World} {ao : Option Addr} {n c b off : Nat} {cs : List Value} (h : Oz sz B w ao n c b off cs) (hB : B ≤ w.heap.size)
    (t tx ty e : TypeId) (z : Value) (bytes : Nat) (ht : Tryd.prog.underlying t = some (.slice e)) (hinfo : (Tryd.prog.info? e).map (fun i => (i.zero, i.size, i.bytes)) = some (some z, sz, bytes)) (hzs : z.cells.size = sz)
    (x : Value) (m : Nat) (news : List Value) (hs : Src Tryd.prog sz tx x m news w) (h63 : n + m ≤ maxLen) (hbytes : (n + m) * bytes ≤ 140737488355328) :
    ∃ b' off', App sz B #[t, tx] ty w ao n c b cs x m news b' off' := by
  obtain ⟨i, hi, hz0, hz1, hz2⟩ := info_parts hinfo
  obtain ⟨ao', c', b', off', w', hrun, r1, r2, r3, r4⟩ := run_append_own (P := Tryd.prog) h hB t tx ty e i z bytes ht hi hz0 hz1 hz2 hzs x m news hs h63 hbytes
  refine ⟨b', off', ⟨⟨_, _, _, hrun⟩, ?_, ?_, ?_, ?_⟩⟩ <;> (try unfold apW) <;> (try unfold apA) <;> (try unfold apC) <;> rw [hrun]
  · exact r1
  · exact r2
  · exact r3
  · exact r4
/-- what an append leaves alone -/
theorem App.cell {sz B : Nat} {ts : Array TypeId} {ty : TypeId} {w : World} {ao : Option Addr} {n c b : Nat} {cs : List Value} {x : Value} {m : Nat} {news : List Value} {b' off' : Nat} (h : App sz B ts ty w ao n c b cs x m news b' off') {k : Nat} (hk : k < w.heap.size) (hne : 0 < c → k ≠ b) (o : Nat) :
    (apW Tryd.prog ts ty w (.slice ao n c) x).cell? ⟨k, o, none⟩ = w.cell? ⟨k, o, none⟩ ∧ (apW Tryd.prog ts ty w (.slice ao n c) x).frozen? ⟨k, o, none⟩ = w.frozen? ⟨k, o, none⟩ :=
  ⟨World.cell?_of_block (a := ⟨k, o, none⟩) (h.other k hk hne), World.frozen?_of_block (a := ⟨k, o, none⟩) (h.other k hk hne)⟩
theorem cell_below {W w : World} (hb : Below W.heap.size W w) {k o : Nat} {v : Value} (h : W.cell? ⟨k, o, none⟩ = some v) : w.cell? ⟨k, o, none⟩ = some v := (hb.cell (p := ⟨k, o, none⟩) (World.block_lt_of_cell? _ _ h)).trans h
theorem oz_drew {sz B : Nat} {w : World} {ao : Option Addr} {n c b off : Nat} {cs : List Value} (h : Oz sz B w ao n c b off cs) : Oz sz B w.drew ao n c b off cs := h.block (Nat.le_refl _) fun _ => rfl
theorem but_drew {g : Nat} {W w : World} (h : But g W w) : But g W w.drew := ⟨h.os, h.tape, h.output, h.size, h.block⟩
theorem but_set {g : Nat} {W w : World} (h : But g W w) (o : Nat) (v : Value) : But g W (w.setCell ⟨g, o, none⟩ v) := h.trans (but_cells g o [v] w)
theorem but_set2 (w : World) (g o1 o2 : Nat) (v1 v2 : Value) : But g w ((w.setCell ⟨g, o1, none⟩ v1).setCell ⟨g, o2, none⟩ v2) := but_set (but_set (But.refl _ _) _ _) _ _
theorem cell_far (w : World) (v : Value) {b o1 o2 : Nat} {u : Value} (h : o2 ≠ o1) (hc : w.cell? ⟨b, o2, none⟩ = some u) : (w.setCell ⟨b, o1, none⟩ v).cell? ⟨b, o2, none⟩ = some u := (World.cell?_setCell_other _ _ _ _ (by simp <;> omega)).trans hc
theorem cell_else (w : World) (v : Value) {b b' o1 o2 : Nat} {u : Value} (h : b' ≠ b) (hc : w.cell? ⟨b', o2, none⟩ = some u) : (w.setCell ⟨b, o1, none⟩ v).cell? ⟨b', o2, none⟩ = some u := (World.cell?_setCell_other _ _ _ _ (by simp <;> omega)).trans hc
theorem oz_far {sz lo : Nat} {w : World} {ao : Option Addr} {n c b off : Nat} {l : List Value} (h : Oz sz lo w ao n c b off l) {k : Nat} (hk : 0 < c → b ≠ k) (o : Nat) (v : Value) : Oz sz lo (w.setCell ⟨k, o, none⟩ v) ao n c b off l :=
  h.block ((Below.refl 0 w).setCell (p := ⟨k, o, none⟩) (Nat.zero_le _) _).size fun hc => Below.heap_setCell _ _ _ _ (hk hc)
end Go.Proofs.YtamojciiacmjaaaDoor
/- Lists of numbers, of truths and of lists in memory: a cell each. -/
namespace Go.Proofs.YtamojciiacmjaaaDoor
open Num Go.RowKit
set_option linter.unusedVariables false

def ints (l : List Int) : List Value := l.map (Value.int .i64)
def bools (l : List Bool) : List Value := l.map Value.bool
theorem ints_at {l : List Int} {i : Nat} {n : Int} (h : l[i]? = some n) : (ints l)[i]? = some (.int .i64 n) := by unfold ints; rw [List.getElem?_map, h]; rfl
theorem ints_len (l : List Int) : (ints l).length = l.length * 1 := by unfold ints; simp
theorem bools_at {l : List Bool} {i : Nat} {n : Bool} (h : l[i]? = some n) : (bools l)[i]? = some (.bool n) := by unfold bools; rw [List.getElem?_map, h]; rfl
theorem bools_len (l : List Bool) : (bools l).length = l.length * 1 := by unfold bools; simp
theorem ints_append (a b : List Int) : ints (a ++ b) = ints a ++ ints b := by unfold ints; rw [List.map_append]
theorem ints_take (l : List Int) (k : Nat) : ints (l.take k) = (ints l).take k := by unfold ints; rw [List.map_take]
theorem ints_set (l : List Int) (i : Nat) (v : Int) : ints (l.set i v) = (ints l).set i (.int .i64 v) := by unfold ints; rw [List.map_set]
theorem bools_set (l : List Bool) (i : Nat) (v : Bool) : bools (l.set i v) = (bools l).set i (.bool v) := by unfold bools; rw [List.map_set]
theorem one_ints (l : List Int) : ∀ v ∈ ints l, v.oneCell' = true := by
  intro v hv
  unfold ints at hv
  obtain ⟨r, -, rfl⟩ := List.mem_map.1 hv
  rfl
abbrev Vi (w : World) (ao : Option Addr) (n c b off : Nat) (l : List Int) : Prop := Vz 1 w ao n c b off (ints l)
abbrev Oi (B : Nat) (w : World) (ao : Option Addr) (n c b off : Nat) (l : List Int) : Prop := Oz 1 B w ao n c b off (ints l)
abbrev Vt (w : World) (ao : Option Addr) (n c b off : Nat) (l : List Bool) : Prop := Vz 1 w ao n c b off (bools l)
abbrev Ot (B : Nat) (w : World) (ao : Option Addr) (n c b off : Nat) (l : List Bool) : Prop := Oz 1 B w ao n c b off (bools l)
theorem vi_len {w : World} {ao : Option Addr} {n c b off : Nat} {l : List Int} (h : Vi w ao n c b off l) : l.length = n := by have := h.len; rw [ints_len] at this; omega
theorem vt_len {w : World} {ao : Option Addr} {n c b off : Nat} {l : List Bool} (h : Vt w ao n c b off l) : l.length = n := by have := h.len; rw [bools_len] at this; omega
theorem vi_at {w : World} {ao : Option Addr} {n c b off : Nat} {l : List Int} (h : Vi w ao n c b off l) {i : Nat} {m : Int} (hi : l[i]? = some m) : ao = some ⟨b, off, none⟩ ∧ w.cell? ⟨b, off + i, none⟩ = some (.int .i64 m) := by
  have hl := vi_len h
  have hlt : i < l.length := (List.getElem?_eq_some_iff.1 hi).1
  exact ⟨h.addr (by have := h.le; omega), h.lies _ _ (ints_at hi)⟩
theorem vt_at {w : World} {ao : Option Addr} {n c b off : Nat} {l : List Bool} (h : Vt w ao n c b off l) {i : Nat} {m : Bool} (hi : l[i]? = some m) : ao = some ⟨b, off, none⟩ ∧ w.cell? ⟨b, off + i, none⟩ = some (.bool m) := by
  have hl := vt_len h
  have hlt : i < l.length := (List.getElem?_eq_some_iff.1 hi).1
  exact ⟨h.addr (by have := h.le; omega), h.lies _ _ (bools_at hi)⟩
theorem vi_nth {w : World} {ao : Option Addr} {n c b off : Nat} {l : List Int} (h : Vi w ao n c b off l) {i : Nat} (hi : i < n) : w.cell? ⟨b, off + i, none⟩ = some (.int .i64 (nth l i)) :=
  (vi_at h (nth_get (by rw [vi_len h]; exact hi))).2
theorem vi_nil (w : World) (ao : Option Addr) : Vi w ao 0 0 0 0 [] := (oz_nil 1 0 w ao).v
theorem oi_nil (B : Nat) (w : World) (ao : Option Addr) : Oi B w ao 0 0 0 0 [] := oz_nil 1 B w ao
theorem vi_take {w : World} {ao : Option Addr} {n c b off : Nat} {l : List Int} (h : Vi w ao n c b off l) {k : Nat} (hk : k ≤ n) : Vi w ao k c b off (l.take k) := by
  have hl := vi_len h
  refine ⟨by rw [ints_len, List.length_take]; omega, by have := h.le; omega, h.max, h.addr, ?_⟩
  rw [ints_take]
  exact h.lies.take _
theorem oi_take {B : Nat} {w : World} {ao : Option Addr} {n c b off : Nat} {l : List Int} (h : Oi B w ao n c b off l) {k : Nat} (hk : k ≤ n) : Oi B w ao k c b off (l.take k) := ⟨vi_take h.v hk, h.new, h.room⟩
theorem oi_set {B : Nat} {w : World} {ao : Option Addr} {n c b off : Nat} {l : List Int} (h : Oi B w ao n c b off l) {i : Nat} (hi : i < n) (v : Int) : Oi B (w.setCell ⟨b, off + i, none⟩ (.int .i64 v)) ao n c b off (l.set i v) := by
  have := oz_set h (p := i) (by rw [ints_len, vi_len h.v]; omega) (.int .i64 v)
  rw [← ints_set] at this
  exact this
theorem ot_set {B : Nat} {w : World} {ao : Option Addr} {n c b off : Nat} {l : List Bool} (h : Ot B w ao n c b off l) {i : Nat} (hi : i < n) (v : Bool) : Ot B (w.setCell ⟨b, off + i, none⟩ (.bool v)) ao n c b off (l.set i v) := by
  have := oz_set h (p := i) (by rw [bools_len, vt_len h.v]; omega) (.bool v)
  rw [← bools_set] at this
  exact this
theorem oz_fz {sz B : Nat} {w : World} {ao : Option Addr} {n c b off : Nat} {cs : List Value} (h : Oz sz B w ao n c b off cs) {i : Nat} (hi : i < n * sz) : w.frozen? ⟨b, off + i, none⟩ = false :=
  (h.room i (Nat.lt_of_lt_of_le hi (Nat.mul_le_mul_right _ h.v.le))).2
theorem oi_fz {B : Nat} {w : World} {ao : Option Addr} {n c b off : Nat} {l : List Int} (h : Oi B w ao n c b off l) {i : Nat} (hi : i < n) : w.frozen? ⟨b, off + i, none⟩ = false := oz_fz h (by omega)
theorem ot_fz {B : Nat} {w : World} {ao : Option Addr} {n c b off : Nat} {l : List Bool} (h : Ot B w ao n c b off l) {i : Nat} (hi : i < n) : w.frozen? ⟨b, off + i, none⟩ = false := oz_fz h (by omega)

theorem info3 : (Tryd.prog.info? 3).map (fun i => (i.zero, i.size, i.bytes)) = some (some (.int .i64 0), 1, 8) := by kernel_rfl
theorem info4 : (Tryd.prog.info? 4).map (fun i => (i.zero, i.size, i.bytes)) = some (some (.bool false), 1, 1) := by kernel_rfl
theorem info22 : (Tryd.prog.info? 22).map (fun i => (i.zero, i.size, i.bytes)) = some (some (.slice none 0 0), 1, 24) := by kernel_rfl
/-- numbers in a new block -/
theorem oi_news {lo : Nat} {w : World} (hB : lo ≤ w.heap.size) (l : List Int) (hl : l.length ≤ 1000000) (t : TypeId) : Oi lo (w.alloc (.cells (ints l).toArray t)) (some ⟨w.heap.size, 0, none⟩) l.length l.length w.heap.size 0 l :=
  oz_news hB _ _ (ints_len l) hl t
theorem src_ints {t : TypeId} (ht : Tryd.prog.underlying t = some (.slice 3)) {w : World} {ao : Option Addr} {n c b off : Nat} {l : List Int} (h : Vi w ao n c b off l) : Src Tryd.prog 1 t (.slice ao n c) n (ints l) w := src_of h (by decide) ht (one_ints l)
/-- a number that was laid in a block of its own, to be put behind others -/
abbrev Lit1 (w : World) (g : Nat) (v : Int) : Prop := Vi w (some ⟨g, 0, none⟩) 1 1 g 0 [v]
theorem lit_new (w : World) (v : Int) : Lit1 (w.alloc (.cells #[.int .i64 v] 3)) w.heap.size v := (oi_news (w := w) (lo := 0) (Nat.zero_le _) [v] (by simp) 3).v
theorem lit_drew {w : World} {g : Nat} {v : Int} (h : Lit1 w g v) : Lit1 w.drew g v := ⟨h.len, h.le, h.max, h.addr, h.lies⟩
/-- a number behind numbers -/
theorem app_lit {t : TypeId} (ht : Tryd.prog.underlying t = some (.slice 3)) {lo : Nat} {w : World} {ao : Option Addr} {n c b off : Nat} {l : List Int} (h : Oi lo w ao n c b off l) (hB : lo ≤ w.heap.size) (hn : n ≤ 100000) {g : Nat} {v : Int} (hs : Lit1 w g v) :
    ∃ b'' off'', App 1 lo #[t, t] t w ao n c b (ints l) (.slice (some ⟨g, 0, none⟩) 1 1) 1 (ints [v]) b'' off'' :=
  app_own h hB t t t 3 _ 8 ht info3 rfl _ 1 (ints [v]) (src_ints ht hs) (by simp only [maxLen]; omega) (by omega)
theorem oi_app {B : Nat} {w : World} {ao : Option Addr} {n c b' off' : Nat} {l l' : List Int} (h : Oz 1 B w ao n c b' off' (ints l ++ ints l')) : Oi B w ao n c b' off' (l ++ l') := by
  rw [← ints_append] at h
  exact h
/-- a list is answered, in memory of one's own -/
def RetI (B : Nat) (w : World) (e : Ending) (l : List Int) : Prop := ∃ ao n c b off, e = .returned (.slice ao n c) ∧ Oi B w ao n c b off l
theorem retI {B : Nat} {w : World} {e : Ending} {l : List Int} (h : RetI B w e l) : ∃ ao n c b off, e = .returned (.slice ao n c) ∧ Oi B w ao n c b off l := h
def RetT (B : Nat) (w : World) (e : Ending) (l : List Bool) : Prop := ∃ ao n c b off, e = .returned (.slice ao n c) ∧ Ot B w ao n c b off l
theorem retT {B : Nat} {w : World} {e : Ending} {l : List Bool} (h : RetT B w e l) : ∃ ao n c b off, e = .returned (.slice ao n c) ∧ Ot B w ao n c b off l := h

set_option maxRecDepth 100000 in
/-- so many noughts -/
theorem run_zeros (n : Nat) (hn : n ≤ 1000000) (w : World) : (Instr.makeSlice 22 (.int .i64 (n : Int)) (.int .i64 (n : Int))).run Tryd.prog w = .ok (.slice (some ⟨w.heap.size, 0, none⟩) n n) (w.alloc (.cells (ints (List.replicate n 0)).toArray 3)) := by
  obtain ⟨i, hi, hz0, hz1, hz2⟩ := info_parts info3
  have := run_make (P := Tryd.prog) w 22 3 i _ Tryd.underlying22 hi hz0 .i64 .i64 n n (by omega) (Int.le_refl _) (by rw [hz2]; omega) (by omega)
  rw [hz1] at this
  simp only [Int.toNat_natCast] at this
  rw [this]
  congr 3
  unfold madeCells
  apply Array.ext
  · simp [ints]
  · intro j h1 h2
    rw [Array.getElem_map]
    simp [ints, Value.cells]
    rw [Nat.mod_one]; rfl
set_option maxRecDepth 100000 in
/-- so many that are false -/
theorem run_falses (n : Nat) (hn : n ≤ 1000000) (w : World) : (Instr.makeSlice 41 (.int .i64 (n : Int)) (.int .i64 (n : Int))).run Tryd.prog w = .ok (.slice (some ⟨w.heap.size, 0, none⟩) n n) (w.alloc (.cells (bools (List.replicate n false)).toArray 4)) := by
  obtain ⟨i, hi, hz0, hz1, hz2⟩ := info_parts info4
  have := run_make (P := Tryd.prog) w 41 4 i _ Tryd.underlying41 hi hz0 .i64 .i64 n n (by omega) (Int.le_refl _) (by rw [hz2]; omega) (by omega)
  rw [hz1] at this
  simp only [Int.toNat_natCast] at this
  rw [this]
  congr 3
  unfold madeCells
  apply Array.ext
  · simp [bools]
  · intro j h1 h2
    rw [Array.getElem_map]
    simp [bools, Value.cells]
    rw [Nat.mod_one]; rfl
theorem ot_news {lo : Nat} {w : World} (hB : lo ≤ w.heap.size) (l : List Bool) (hl : l.length ≤ 1000000) (t : TypeId) : Ot lo (w.alloc (.cells (bools l).toArray t)) (some ⟨w.heap.size, 0, none⟩) l.length l.length w.heap.size 0 l :=
  oz_news hB _ _ (bools_len l) hl t
/-- so many lists that are nothing -/
def nils (n : Nat) : List Value := List.replicate n (.slice none 0 0)
set_option maxRecDepth 100000 in
theorem run_nils (n : Nat) (hn : n ≤ 1000000) (w : World) : (Instr.makeSlice 80 (.int .i64 (n : Int)) (.int .i64 (n : Int))).run Tryd.prog w = .ok (.slice (some ⟨w.heap.size, 0, none⟩) n n) (w.alloc (.cells (nils n).toArray 22)) := by
  obtain ⟨i, hi, hz0, hz1, hz2⟩ := info_parts info22
  have := run_make (P := Tryd.prog) w 80 22 i _ Tryd.underlying80 hi hz0 .i64 .i64 n n (by omega) (Int.le_refl _) (by rw [hz2]; omega) (by omega)
  rw [hz1] at this
  simp only [Int.toNat_natCast] at this
  rw [this]
  congr 3
  unfold madeCells
  apply Array.ext
  · simp [nils]
  · intro j h1 h2
    rw [Array.getElem_map]
    simp [nils, Value.cells]
    rw [Nat.mod_one]; rfl
end Go.Proofs.YtamojciiacmjaaaDoor
/- Filters in memory: nodes of three cells each, with lists of numbers behind them. -/
namespace Go.Proofs.YtamojciiacmjaaaDoor
open Num Go.RowKit
set_option linter.unusedVariables false
set_option linter.unusedSimpArgs false

/-- a node: what it does, its inputs and its numbers, and where they lie -/
structure Nv where
  op : Int
  ai : Option Addr
  ni : Nat
  ci : Nat
  bi : Nat
  oi : Nat
  l : List Int
  ap : Option Addr
  np : Nat
  cp : Nat
  bp : Nat
  ob : Nat
  p : List Int
def cellsN (v : Nv) : List Value := [.int .i64 v.op, .slice v.ai v.ni v.ci, .slice v.ap v.np v.cp]
def flatN (L : List Nv) : List Value := L.flatMap cellsN
theorem flatN_cons (v : Nv) (L : List Nv) : flatN (v :: L) = .int .i64 v.op :: .slice v.ai v.ni v.ci :: .slice v.ap v.np v.cp :: flatN L := rfl
theorem flatN_len : ∀ L : List Nv, (flatN L).length = L.length * 3
  | [] => rfl
  | v :: L => by rw [flatN_cons]; simp only [List.length_cons]; rw [flatN_len L]; omega
theorem flatN_at : ∀ {L : List Nv} {i : Nat} {v : Nv}, L[i]? = some v → (flatN L)[i * 3]? = some (.int .i64 v.op) ∧ (flatN L)[i * 3 + 1]? = some (.slice v.ai v.ni v.ci) ∧ (flatN L)[i * 3 + 2]? = some (.slice v.ap v.np v.cp)
  | v :: L, 0, u, h => by
    simp only [List.getElem?_cons_zero, Option.some.injEq] at h
    subst h
    rw [flatN_cons]
    exact ⟨rfl, rfl, rfl⟩
  | v :: L, i + 1, u, h => by
    rw [List.getElem?_cons_succ] at h
    have := flatN_at h
    rw [flatN_cons, show (i + 1) * 3 = i * 3 + 1 + 1 + 1 by omega]
    simpa using this
/-- a slice of nodes -/
structure Vn (w : World) (ao : Option Addr) (n c b off : Nat) (L : List Nv) : Prop where
  z : Vz 3 w ao n c b off (flatN L)
  i : ∀ v, v ∈ L → Vi w v.ai v.ni v.ci v.bi v.oi v.l
  p : ∀ v, v ∈ L → Vi w v.ap v.np v.cp v.bp v.ob v.p
theorem Vn.below {w w' : World} {ao : Option Addr} {n c b off : Nat} {L : List Nv} (h : Vn w ao n c b off L) (hb : Below w.heap.size w w') : Vn w' ao n c b off L := ⟨h.z.below hb, fun v hv => (h.i v hv).below hb, fun v hv => (h.p v hv).below hb⟩
theorem vn_len {w : World} {ao : Option Addr} {n c b off : Nat} {L : List Nv} (h : Vn w ao n c b off L) : L.length = n := by have := h.z.len; rw [flatN_len] at this; omega
theorem vn_at {w : World} {ao : Option Addr} {n c b off : Nat} {L : List Nv} (h : Vn w ao n c b off L) {i : Nat} {v : Nv} (hi : L[i]? = some v) :
    ao = some ⟨b, off, none⟩ ∧ (w.cell? ⟨b, off + i * 3, none⟩ = some (.int .i64 v.op) ∧ w.cell? ⟨b, off + i * 3 + 1, none⟩ = some (.slice v.ai v.ni v.ci) ∧ w.cell? ⟨b, off + i * 3 + 2, none⟩ = some (.slice v.ap v.np v.cp)) ∧ Vi w v.ai v.ni v.ci v.bi v.oi v.l ∧ Vi w v.ap v.np v.cp v.bp v.ob v.p := by
  have hl := vn_len h
  have hlt : i < L.length := (List.getElem?_eq_some_iff.1 hi).1
  obtain ⟨e0, e1, e2⟩ := flatN_at hi
  exact ⟨h.z.addr (by have := h.z.le; omega), ⟨h.z.lies _ _ e0, h.z.lies _ _ e1, h.z.lies _ _ e2⟩, h.i v (List.mem_of_getElem? hi), h.p v (List.mem_of_getElem? hi)⟩
theorem vn_nil (w : World) (ao : Option Addr) : Vn w ao 0 0 0 0 [] := ⟨(oz_nil 3 0 w ao).v, fun v hv => (by cases hv), fun v hv => (by cases hv)⟩
/-- the nodes' inputs -/
def insL (L : List Nv) : List (List Int) := L.map Nv.l
theorem insL_len (L : List Nv) : (insL L).length = L.length := by unfold insL; simp
theorem insL_at {L : List Nv} {i : Nat} {v : Nv} (h : L[i]? = some v) : inL (insL L) i = v.l := by unfold inL insL; rw [List.getD_eq_getElem?_getD, List.getElem?_map, h]; rfl
/-- few nodes, with few inputs -/
structure Few (n : Nat) (L : List Nv) : Prop where
  n : n ≤ 1000
  i : ∀ v, v ∈ L → v.ni ≤ 1000

end Go.Proofs.YtamojciiacmjaaaDoor
/- Whether a place is a node's, whether a number is a list's last, whether two lists are one, whether a filter has few nodes: contracts. -/
namespace Go.Proofs.YtamojciiacmjaaaDoor
open Num Go.RowKit
set_option linter.unusedVariables false
set_option linter.unusedSimpArgs false

/-- is it a node's place? -/
def plc (n : Nat) (x : Int) : Bool := decide (0 ≤ x ∧ x < (n : Int))
theorem has27_any (ao : Option Addr) (n c : Nat) (out x : Int) (w : World) (hn : n ≤ 1000) :
    Calls Tryd.prog 70 #[.agg #[.slice ao n c, .int .i64 out], .int .i64 x] w fun e w' => e = .returned (.bool (plc n x)) ∧ Below w.heap.size w w' := by
  by_cases h0 : 0 ≤ x
  · by_cases h1 : x < (n : Int)
    · have e : plc n x = true := by unfold plc; rw [decide_eq_true ⟨h0, h1⟩]
      rw [e]
      go_enter Tryd.func70, Tryd.ntmps70
      go_wp2
      go_ret
      exact ⟨ret_bool (by simp [h1]), (Below.refl _ _).alloc (Nat.le_refl _) _⟩
    · have e : plc n x = false := by unfold plc; rw [decide_eq_false (fun h => h1 h.2)]
      rw [e]
      go_enter Tryd.func70, Tryd.ntmps70
      go_wp2
      go_ret
      exact ⟨ret_bool (by simp [h1]), (Below.refl _ _).alloc (Nat.le_refl _) _⟩
  · have e : plc n x = false := by unfold plc; rw [decide_eq_false (fun h => h0 h.1)]
    rw [e]
    go_enter Tryd.func70, Tryd.ntmps70
    go_wp2
    go_ret
    exact ⟨ret_bool (by simp [h0]), (Below.refl _ _).alloc (Nat.le_refl _) _⟩

theorem ends_any (ao : Option Addr) (n c b off : Nat) (l : List Int) (x : Int) (w : World) (h : Vi w ao n c b off l) :
    Calls Tryd.prog 71 #[.slice ao n c, .int .i64 x] w fun e w' => e = .returned (.bool (endsB l x)) ∧ w' = w := by
  have hn := vz_small h
  have hl := vi_len h
  by_cases h0 : 0 < n
  · obtain ⟨m, rfl⟩ : ∃ m, n = m + 1 := ⟨n - 1, by omega⟩
    have c0 := vi_nth h (i := m) (by omega)
    obtain rfl := h.addr (by have := h.le; omega)
    have hz : ((m + 1 : Nat) : Int) - 1 = (m : Int) := by omega
    have hz1 : (m : Int) < ((m + 1 : Nat) : Int) := by omega
    have e : endsB l x = decide (nth l m = x) := by
      unfold endsB
      rw [hl, decide_eq_decide]
      exact ⟨fun h => h.2, fun h => ⟨fun hc => by subst hc; simp at hl, h⟩⟩
    rw [e]
    clear h hl e
    go_enter Tryd.func71, Tryd.ntmps71
    go_wp2
    go_ret
    exact ⟨ret_bool (by rw [Bool.eq_iff_iff]; simp), rfl⟩
  · obtain rfl : n = 0 := by omega
    have e : endsB l x = false := by
      unfold endsB
      rw [decide_eq_false]
      exact fun hc => hc.1 (List.length_eq_zero_iff.1 hl)
    rw [e]
    clear h hl e
    go_enter Tryd.func71, Tryd.ntmps71
    go_wp2
    go_ret
    exact ⟨rfl, rfl⟩

def fewV (v : Nv) : Bool := decide (v.ni ≤ 20) && decide (v.np ≤ 40)
def fewB (L : List Nv) (most : Nat) : Bool := decide (L.length ≤ most) && L.all fewV
theorem all_step {l : List Nv} {k : Nat} {m : Nv} (h : l[k]? = some m) : (l.drop k).all fewV = (fewV m && (l.drop (k + 1)).all fewV) := by
  obtain ⟨hk, rfl⟩ := List.getElem?_eq_some_iff.1 h
  rw [List.drop_eq_getElem_cons hk]; rfl
set_option maxRecDepth 100000 in
set_option maxHeartbeats 1000000 in
theorem few_any (ao : Option Addr) (n c b off : Nat) (L : List Nv) (out : Int) (most : Nat) (w : World) (h : Vn w ao n c b off L) (hmost : most ≤ 1000) :
    Calls Tryd.prog 32 #[.agg #[.slice ao n c, .int .i64 out], .int .i64 most] w fun e w' => e = .returned (.bool (fewB L most)) ∧ Below w.heap.size w w' := by
  have hl := vn_len h
  have hn := vz_small h.z
  by_cases hm : n ≤ most
  · have hmz : ¬ ((most : Int) < (n : Int)) := by omega
    have e : fewB L most = L.all fewV := by unfold fewB; rw [hl, decide_eq_true hm, Bool.true_and]
    rw [e]
    have H := hid (And.intro h hl)
    clear h hl e
    go_enter Tryd.func32, Tryd.ntmps32
    go_wp2
    go_loopg [5] n (fun g k wr => ∃ j : Nat, j ≤ n ∧ g = n - j ∧ k = .int .i64 j ∧ wr = w.alloc (.cells #[.slice ao n c, .int .i64 out] 36) ∧ (L.drop j).all fewV = L.all fewV)
    case atStart => exact ⟨0, Nat.zero_le _, rfl, rfl, rfl, rfl⟩
    case round =>
      obtain ⟨j, hj, rfl, rfl, rfl, hs⟩ := hrel
      by_cases hlt : j < n
      · have hlz : (j : Int) < (n : Int) := by omega
        obtain ⟨v, hv⟩ : ∃ m, L[j]? = some m := ⟨_, List.getElem?_eq_getElem (by rw [H.out.2]; exact hlt)⟩
        rw [all_step hv] at hs
        have HS := hid hs
        obtain ⟨rfl, ⟨c0, c1, c2⟩, g1, g2⟩ := vn_at H.out.1 hv
        have hb := World.block_lt_of_cell? _ _ c1
        have k1 := vz_small g1
        have k2 := vz_small g2
        clear hs hv c0 g1 g2
        by_cases e1 : v.ni ≤ 20
        · have e1z : ¬ (20 < (v.ni : Int)) := by omega
          by_cases e2 : v.np ≤ 40
          · have e2z : ¬ (40 < (v.np : Int)) := by omega
            go_wp2
            go_roundg (n - (j + 1))
            case measure => omega
            case rel => exact ⟨j + 1, hlt, rfl, by simp, rfl, by rw [← HS.out]; simp [fewV, e1, e2]⟩
          · have e2z : 40 < (v.np : Int) := by omega
            go_wp2
            go_ret
            exact ⟨ret_bool (by rw [← HS.out]; simp [fewV, e2]), (Below.refl _ _).alloc (Nat.le_refl _) _⟩
        · have e1z : 20 < (v.ni : Int) := by omega
          go_wp2
          go_ret
          exact ⟨ret_bool (by rw [← HS.out]; simp [fewV, e1]), (Below.refl _ _).alloc (Nat.le_refl _) _⟩
      · obtain rfl : j = n := by omega
        have HS := hid hs
        clear hs
        go_wp2
        go_ret
        exact ⟨ret_bool (by rw [← HS.out, List.drop_eq_nil_of_le (by rw [H.out.2]; exact Nat.le_refl _)]; rfl), (Below.refl _ _).alloc (Nat.le_refl _) _⟩
  · have hmz : (most : Int) < (n : Int) := by omega
    have e : fewB L most = false := by unfold fewB; rw [hl, decide_eq_false hm, Bool.false_and]
    rw [e]
    clear h hl e
    go_enter Tryd.func32, Tryd.ntmps32
    go_wp2
    go_ret
    exact ⟨rfl, (Below.refl _ _).alloc (Nat.le_refl _) _⟩
theorem few_of {n : Nat} {L : List Nv} {most : Nat} (hl : L.length = n) (h : fewB L most = true) (hm : most ≤ 1000) : n ≤ most ∧ Few n L ∧ ∀ v, v ∈ L → v.ni ≤ 20 ∧ v.np ≤ 40 := by
  unfold fewB at h
  rw [Bool.and_eq_true, decide_eq_true_eq, List.all_eq_true] at h
  have h2 : ∀ v, v ∈ L → v.ni ≤ 20 ∧ v.np ≤ 40 := fun v hv => by
    have := h.2 v hv
    unfold fewV at this
    simpa using this
  exact ⟨by omega, ⟨by omega, fun v hv => by have := (h2 v hv).1; omega⟩, h2⟩
end Go.Proofs.YtamojciiacmjaaaDoor
/- What is wrong with a filter: plain functions. -/
namespace Go.Proofs.YtamojciiacmjaaaDoor
open Num Go.RowKit
set_option linter.unusedVariables false
set_option linter.unusedSimpArgs false

theorem vi_nth' {w : World} {ao : Option Addr} {n c b off : Nat} {l : List Int} (h : Vi w ao n c b off l) {i : Nat} (hi : i < n) : ao = some ⟨b, off, none⟩ ∧ w.cell? ⟨b, off + i, none⟩ = some (.int .i64 (nth l i)) :=
  vi_at h (nth_get (by rw [vi_len h]; exact hi))
theorem insB_ne' {s k : Nat} {lo hi : Int} (h : 0 < k) : insB s k lo hi ≠ [] := by
  intro e
  have := insB_len s k lo hi
  rw [e] at this
  simp at this
  omega
def arI (op : Int) : Value := .tuple #[.int .i64 (leastI op), .int .i64 (mostI op), .int .i64 (parI op : Int), .bool (kindB op)]
/-- a node that lies in a block of its own -/
structure Nb (w : World) (k : Nat) (op : Int) (ai : Option Addr) (ni ci : Nat) (ap : Option Addr) (np cp : Nat) : Prop where
  c0 : w.cell? ⟨k, 0, none⟩ = some (.int .i64 op)
  c1 : w.cell? ⟨k, 1, none⟩ = some (.slice ai ni ci)
  c2 : w.cell? ⟨k, 2, none⟩ = some (.slice ap np cp)
theorem Nb.below {w w' : World} {k : Nat} {op : Int} {ai : Option Addr} {ni ci : Nat} {ap : Option Addr} {np cp : Nat} (h : Nb w k op ai ni ci ap np cp) (hb : Below w.heap.size w w') : Nb w' k op ai ni ci ap np cp := ⟨cell_below hb h.c0, cell_below hb h.c1, cell_below hb h.c2⟩
theorem nb_new (w : World) (op : Int) (ai : Option Addr) (ni ci : Nat) (ap : Option Addr) (np cp : Nat) (t : TypeId) : Nb (w.alloc (.cells #[.int .i64 op, .slice ai ni ci, .slice ap np cp] t)) w.heap.size op ai ni ci ap np cp :=
  ⟨World.cell?_alloc_new w _ _ 0, World.cell?_alloc_new w _ _ 1, World.cell?_alloc_new w _ _ 2⟩
theorem inp_step {l : List Int} {k : Nat} {m count : Int} (h : l[k]? = some m) : (l.drop k).all (inpB count) = (inpB count m && (l.drop (k + 1)).all (inpB count)) := by
  obtain ⟨hk, rfl⟩ := List.getElem?_eq_some_iff.1 h
  rw [List.drop_eq_getElem_cons hk]; rfl
theorem allB_step {fs : List Fn1} {k : Nat} {f : Fn1} {p : List Int} (h : fs[k]? = some f) : allB (fs.drop k) p = (f p && allB (fs.drop (k + 1)) p) := by
  obtain ⟨hk, rfl⟩ := List.getElem?_eq_some_iff.1 h
  rw [List.drop_eq_getElem_cons hk]; rfl
theorem inp_yes {count m : Int} (h : m = -1 ∨ (0 ≤ m ∧ m < count)) : inpB count m = true := by unfold inpB; rcases h with h | ⟨h1, h2⟩ <;> simp_all
theorem inp_no {count m : Int} (h1 : ¬ m = -1) (h2 : ¬ (0 ≤ m ∧ m < count)) : inpB count m = false := by
  unfold inpB
  simp only [Bool.or_eq_false_iff, Bool.and_eq_false_iff, decide_eq_false_iff_not]
  omega
def nodeI (count : Int) (v : Nv) : Int := oneI v.op v.l v.p count
/-- the first node's fault -/
def firstI (count : Int) : List Nv → Int
  | [] => 0
  | v :: L => if nodeI count v = 0 then firstI count L else nodeI count v
def checkI (L : List Nv) (out : Int) : Int :=
  if L.length = 0 ∨ 256 < L.length then 3
  else if firstI (L.length : Int) L = 0 then (if 0 ≤ out ∧ out < (L.length : Int) then (if roundB (insL L) = true then 6 else 0) else 8)
  else firstI (L.length : Int) L
theorem first_step {L : List Nv} {k : Nat} {v : Nv} {count : Int} (h : L[k]? = some v) : firstI count (L.drop k) = if nodeI count v = 0 then firstI count (L.drop (k + 1)) else nodeI count v := by
  obtain ⟨hk, rfl⟩ := List.getElem?_eq_some_iff.1 h
  rw [List.drop_eq_getElem_cons hk]; rfl

end Go.Proofs.YtamojciiacmjaaaDoor
