/- Slices in memory: where their cells lie, and what an append makes of them. -/
import Derived.Test.YtleclkjinkbebaaChecked
import Derived.Test.YtleclkjinkbebaaNum
import Derived.WalkKit
import Derived.WalkLawsBesides
import Derived.Outline
import Derived.Handy
import Derived.Deep.AppendSrc
namespace Go.Proofs.Ytleclkjinkbebaa
open Num Go.RowKit
set_option linter.unusedVariables false

/-- the cells lie there, one behind the other -/
def Lies (w : World) (b off : Nat) (cs : List Value) : Prop := ∀ j u, cs[j]? = some u → w.cell? ⟨b, off + j, none⟩ = some u

theorem Lies.lt {w : World} {b off : Nat} {cs : List Value} (h : Lies w b off cs) (hn : 0 < cs.length) : b < w.heap.size :=
  World.block_lt_of_cell? w ⟨b, off + 0, none⟩ (h 0 _ (List.getElem?_eq_getElem hn))
theorem Lies.block {w w' : World} {b off : Nat} {cs : List Value} (h : Lies w b off cs) (e : w'.heap[b]? = w.heap[b]?) : Lies w' b off cs :=
  fun j u hu => (World.cell?_of_block (a := ⟨b, off + j, none⟩) e).trans (h j u hu)
theorem Lies.below {W w : World} {b off : Nat} {cs : List Value} (h : Lies W b off cs) (hb : Below W.heap.size W w) : Lies w b off cs := by
  intro j u hu
  have hj : j < cs.length := (List.getElem?_eq_some_iff.1 hu).1
  exact (World.cell?_of_block (a := ⟨b, off + j, none⟩) (hb.block b (h.lt (by omega)))).trans (h j u hu)
theorem Lies.drop {w : World} {b off : Nat} {cs : List Value} (h : Lies w b off cs) (k : Nat) : Lies w b (off + k) (cs.drop k) := by
  intro j u hu
  rw [List.getElem?_drop] at hu
  rw [show off + k + j = off + (k + j) by omega]
  exact h _ _ hu
theorem Lies.take {w : World} {b off : Nat} {cs : List Value} (h : Lies w b off cs) (k : Nat) : Lies w b off (cs.take k) := by
  intro j u hu
  rw [List.getElem?_take] at hu
  split at hu
  · exact h _ _ hu
  · cases hu
theorem lies_nil (w : World) (b off : Nat) : Lies w b off [] := fun j u hu => by simp at hu

/-- a slice's value: n elements of sz cells each, room for c, the cells cs -/
structure Vz (sz : Nat) (w : World) (ao : Option Addr) (n c b off : Nat) (cs : List Value) : Prop where
  len : cs.length = n * sz
  le : n ≤ c
  max : c ≤ maxLen
  addr : 0 < c → ao = some ⟨b, off, none⟩
  lies : Lies w b off cs

/-- .. in memory that is one's own from block B on -/
structure Oz (sz B : Nat) (w : World) (ao : Option Addr) (n c b off : Nat) (cs : List Value) : Prop where
  v : Vz sz w ao n c b off cs
  new : 0 < c → B ≤ b ∧ b < w.heap.size
  room : ∀ j, j < c * sz → (w.cell? ⟨b, off + j, none⟩).isSome = true ∧ w.frozen? ⟨b, off + j, none⟩ = false

theorem oz_nil (sz B : Nat) (w : World) (ao : Option Addr) : Oz sz B w ao 0 0 0 0 [] :=
  ⟨⟨by simp, Nat.le_refl _, by simp, fun h => absurd h (by omega), lies_nil _ _ _⟩, fun h => absurd h (by omega), fun j h => by simp at h⟩

theorem Vz.below {sz : Nat} {W w : World} {ao : Option Addr} {n c b off : Nat} {cs : List Value} (h : Vz sz W ao n c b off cs) (hb : Below W.heap.size W w) : Vz sz w ao n c b off cs :=
  ⟨h.len, h.le, h.max, h.addr, h.lies.below hb⟩
theorem Oz.block {sz B : Nat} {W w : World} {ao : Option Addr} {n c b off : Nat} {cs : List Value} (h : Oz sz B W ao n c b off cs) (hz : W.heap.size ≤ w.heap.size) (hb : 0 < c → w.heap[b]? = W.heap[b]?) : Oz sz B w ao n c b off cs := by
  by_cases hc : 0 < c
  · have e := hb hc
    refine ⟨⟨h.v.len, h.v.le, h.v.max, h.v.addr, h.v.lies.block e⟩, fun hc => ⟨(h.new hc).1, Nat.lt_of_lt_of_le (h.new hc).2 hz⟩, fun j hj => ?_⟩
    rw [World.cell?_of_block (a := ⟨b, off + j, none⟩) e, World.frozen?_of_block (a := ⟨b, off + j, none⟩) e]
    exact h.room j hj
  · obtain rfl : c = 0 := by omega
    have h0 : n = 0 := by have := h.v.le; omega
    subst h0
    have hcs : cs = [] := List.length_eq_zero_iff.1 (by have := h.v.len; omega)
    subst hcs
    exact ⟨⟨by simp, Nat.le_refl _, by simp, fun h => absurd h (by omega), lies_nil _ _ _⟩, fun h => absurd h (by omega), fun j h => by simp at h⟩
theorem Oz.below {sz B : Nat} {W w : World} {ao : Option Addr} {n c b off : Nat} {cs : List Value} (h : Oz sz B W ao n c b off cs) (hb : Below W.heap.size W w) : Oz sz B w ao n c b off cs :=
  h.block hb.size fun hc => hb.block b (h.new hc).2
theorem Oz.mono {sz B B' : Nat} {W : World} {ao : Option Addr} {n c b off : Nat} {cs : List Value} (h : Oz sz B W ao n c b off cs) (hB : B' ≤ B) : Oz sz B' W ao n c b off cs :=
  ⟨h.v, fun hc => ⟨Nat.le_trans hB (h.new hc).1, (h.new hc).2⟩, h.room⟩

theorem heap_setCells (b : Nat) : ∀ (vs : List Value) (o : Nat) (w : World) (g : Nat), g ≠ b → (w.setCells b o vs).heap[g]? = w.heap[g]?
  | [], _, _, _, _ => rfl
  | v :: r, o, w, g, h => by
    show ((w.setCell ⟨b, o, none⟩ v).setCells b (o + 1) r).heap[g]? = _
    rw [heap_setCells b r (o + 1) _ g h]
    exact Below.heap_setCell _ _ _ _ h
theorem below_setCells {B b : Nat} (hb : B ≤ b) : ∀ (vs : List Value) (o : Nat) (w : World), Below B w (w.setCells b o vs)
  | [], _, _ => Below.refl _ _
  | v :: r, o, w => ((Below.refl B w).setCell (p := ⟨b, o, none⟩) hb v).trans (below_setCells hb r (o + 1) (w.setCell ⟨b, o, none⟩ v))

section
variable {P : Program}
/-- what is appended stands behind what was there; nothing else is written but the slice's own block -/
theorem run_append_own {sz B : Nat} {w : World} {ao : Option Addr} {n c b off : Nat} {cs : List Value} (h : Oz sz B w ao n c b off cs) (hB : B ≤ w.heap.size)
    (t tx ty e : TypeId) (i : TypeInfo) (z : Value) (bytes : Nat) (ht : P.underlying t = some (.slice e)) (hi : P.info? e = some i) (hz : i.zero = some z) (hsize : i.size = sz) (hby : i.bytes = bytes) (hzs : z.cells.size = sz)
    (x : Value) (m : Nat) (news : List Value) (hs : Src P sz tx x m news w) (h63 : n + m ≤ maxLen) (hbytes : (n + m) * bytes ≤ 140737488355328) :
    ∃ ao' c' b' off' w', (Builtin.append_ #[t, tx] ty #[.slice ao n c, x]).run P w = .ok (.slice ao' (n + m) c') w' ∧ Oz sz B w' ao' (n + m) c' b' off' (cs ++ news) ∧ Below B w w' ∧
      (∀ g, g < w.heap.size → (0 < c → g ≠ b) → w'.heap[g]? = w.heap[g]?) ∧ (0 < c' → (0 < c ∧ b' = b) ∨ w.heap.size ≤ b') := by
  subst hsize
  subst hby
  have hnl := hs.newsLen
  have hcl := h.v.len
  have hle := h.v.le
  have hL : (cs ++ news).length = (n + m) * i.size := by rw [List.length_append, hcl, hnl, Nat.add_mul]
  by_cases hr : n + m ≤ c
  · by_cases hc : 0 < c
    · obtain rfl := h.v.addr hc
      have hmul : (n + m) * i.size ≤ c * i.size := Nat.mul_le_mul_right _ hr
      have hcell : ∀ j, j < news.length → (w.cell? ⟨b, off + n * i.size + j, none⟩).isSome = true ∧ w.frozen? ⟨b, off + n * i.size + j, none⟩ = false := by
        intro j hj
        rw [show off + n * i.size + j = off + (n * i.size + j) by omega]
        exact h.room _ (by rw [Nat.add_mul] at hmul; omega)
      refine ⟨some ⟨b, off, none⟩, c, b, off, _, run_append_room_src w t tx ty e i ht hi b off n c x m news hs hr (fun j hj => (hcell j hj).1) (fun j hj => (hcell j hj).2), ⟨⟨hL, hr, h.v.max, fun _ => rfl, ?_⟩, fun _ => ?_, ?_⟩, below_setCells (h.new hc).1 _ _ _, fun g _ hg => heap_setCells _ _ _ _ _ (hg hc), fun _ => Or.inl ⟨hc, rfl⟩⟩
      · intro j u hu
        by_cases hj : j < cs.length
        · rw [List.getElem?_append_left hj] at hu
          rw [World.cell?_setCells_out _ _ _ _ _ (fun _ _ => Or.inl (by dsimp only; omega))]
          exact h.v.lies j u hu
        · rw [List.getElem?_append_right (by omega)] at hu
          have hj' : j - cs.length < news.length := (List.getElem?_eq_some_iff.1 hu).1
          have := World.cell?_setCells_in b news (off + n * i.size) w (fun j hj => (hcell j hj).1) (j - cs.length) hj'
          rw [show off + n * i.size + (j - cs.length) = off + j by omega] at this
          rw [this, ← hu, List.getElem?_eq_getElem hj']
      · exact ⟨(h.new hc).1, Nat.lt_of_lt_of_le (h.new hc).2 (below_setCells (h.new hc).1 _ _ _).size⟩
      · intro j hj
        rw [World.frozen?_setCells]
        refine ⟨?_, (h.room j hj).2⟩
        by_cases hin : n * i.size ≤ j ∧ j < n * i.size + news.length
        · have := World.cell?_setCells_in b news (off + n * i.size) w (fun j hj => (hcell j hj).1) (j - n * i.size) (by omega)
          rw [show off + n * i.size + (j - n * i.size) = off + j by omega] at this
          rw [this]; rfl
        · rw [World.cell?_setCells_out _ _ _ _ _ (fun _ _ => by dsimp only; omega)]
          exact (h.room j hj).1
    · obtain rfl : c = 0 := by omega
      obtain rfl : n = 0 := by omega
      obtain rfl : m = 0 := by omega
      have hcs : cs = [] := List.length_eq_zero_iff.1 (by omega)
      have hne : news = [] := List.length_eq_zero_iff.1 (by omega)
      subst hcs
      subst hne
      refine ⟨ao, 0, 0, 0, w, ?_, oz_nil _ _ _ _, Below.refl _ _, fun _ _ _ => rfl, fun h => absurd h (by omega)⟩
      rcases hs.kind with ⟨e', hk⟩ | hk <;> cases ao <;> simp [Builtin.append_, run_underlying ht, run_underlying hk, sizeOf, typeInfo, hi, hs.len, hs.cells, storeCells]
  · have hold : (Builtin.firstCells i.size n (.slice ao n c)).run P w.drew = .ok cs.toArray w.drew := by
      by_cases hc : 0 < c
      · obtain rfl := h.v.addr hc
        refine run_firstCells_some w.drew i.size n ⟨b, off, none⟩ n c cs hcl (fun j u hu => ?_)
        rw [Addr.add_lit]
        exact h.v.lies j u hu
      · obtain rfl : n = 0 := by omega
        have hcs : cs = [] := List.length_eq_zero_iff.1 (by omega)
        subst hcs
        cases ao with
        | none => exact run_firstCells_none w.drew i.size 0 0 c
        | some a => exact run_firstCells_some w.drew i.size 0 a 0 c [] (by simp) (fun j u hu => by simp at hu)
    have hrun := run_append_grow_src (P := P) w t tx ty e i z ht hi hz ao n c cs hold x m news hs (by omega) (by simp only [maxLen] at h63; omega) (growslice_fits (by omega) hbytes)
    have hge := grownCap_ge w (n + m) c e
    have hcm := grownCap_le_maxLen w (n + m) c e h63
    have hmul : (n + m) * i.size ≤ grownCap w (n + m) c e * i.size := Nat.mul_le_mul_right _ hge
    have hblk : ∀ k, k < w.heap.size → (w.drew.alloc (.cells ((cs ++ news).toArray ++ Builtin.zeroCells z.cells (grownCap w (n + m) c e - (n + m))) e)).heap[k]? = w.heap[k]? := fun k hk => Below.heap_alloc w.drew _ k hk
    have hsz : ((cs ++ news).toArray ++ Builtin.zeroCells z.cells (grownCap w (n + m) c e - (n + m))).size = grownCap w (n + m) c e * i.size := by
      rw [Array.size_append, List.size_toArray, hL, size_zeroCells, hzs, Nat.sub_mul]; omega
    refine ⟨_, _, w.heap.size, 0, _, hrun, ⟨⟨hL, hge, hcm, fun _ => rfl, ?_⟩, fun _ => ⟨hB, by simp⟩, ?_⟩, ⟨rfl, rfl, rfl, by simp, fun k hk => hblk k (by omega)⟩, fun g hg _ => hblk g hg, fun _ => Or.inr (Nat.le_refl _)⟩
    · intro j u hu
      have hj : j < (cs ++ news).length := (List.getElem?_eq_some_iff.1 hu).1
      have e1 : (w.drew.alloc (.cells ((cs ++ news).toArray ++ Builtin.zeroCells z.cells (grownCap w (n + m) c e - (n + m))) e)).cell? ⟨w.heap.size, j, none⟩ = _ := World.cell?_alloc_new w.drew _ _ j
      rw [Nat.zero_add, e1, Array.getElem?_append_left (by simp only [List.size_toArray]; exact hj), List.getElem?_toArray]
      exact hu
    · intro j hj
      have e1 : (w.drew.alloc (.cells ((cs ++ news).toArray ++ Builtin.zeroCells z.cells (grownCap w (n + m) c e - (n + m))) e)).cell? ⟨w.heap.size, j, none⟩ = _ := World.cell?_alloc_new w.drew _ _ j
      rw [Nat.zero_add, e1]
      exact ⟨by rw [Array.getElem?_eq_getElem (by rw [hsz]; exact hj)]; rfl, World.frozen?_alloc_new w.drew _ _ j⟩
end

end Go.Proofs.Ytleclkjinkbebaa
