import Derived.Test.YtamojciiacmjaaaDoorChecked
import Derived.Test.YtamojciiacmjaaaDoorRgPlain
import Derived.WalkKit
import Derived.WalkLawsBesides
import Derived.Outline
import Derived.Handy
import Derived.Deep.AppendSrc
/- Slices in memory: where their cells lie, and what an append makes of them. -/
namespace Go.Proofs.YtamojciiacmjaaaDoor.Rg
open Num Go.RowKit
set_option linter.unusedVariables false

/-- the cells lie there, one behind the other -/
def Lies (w : World) (b off : Nat) (cs : List Value) : Prop := ∀ j u, cs[j]? = some u → w.cell? ⟨b, off + j, none⟩ = some u

theorem Lies.lt {w : World} {b off : Nat} {cs : List Value} (h : Lies w b off cs) (hn : 0 < cs.length) : b < w.heap.size :=
  World.block_lt_of_cell? w ⟨b, off + 0, none⟩ (h 0 _ (List.getElem?_eq_getElem hn))
theorem Lies.block {w w' : World} {b off : Nat} {cs : List Value} (h : Lies w b off cs) (e : w'.heap[b]? = w.heap[b]?) : Lies w' b off cs :=
  fun j u hu => (World.cell?_of_block (a := ⟨b, off + j, none⟩) e).trans (h j u hu)
theorem Lies.below {W w : World} {b off : Nat} {cs : List Value} (h : Lies W b off cs) (hb : Below W.heap.size W w) : Lies w b off cs := by
  intro j u hu
  have hj : j < cs.length := (List.getElem?_eq_some_iff.1 hu).1
  exact (World.cell?_of_block (a := ⟨b, off + j, none⟩) (hb.block b (h.lt (by omega)))).trans (h j u hu)
theorem Lies.drop {w : World} {b off : Nat} {cs : List Value} (h : Lies w b off cs) (k : Nat) : Lies w b (off + k) (cs.drop k) := by
  intro j u hu
  rw [List.getElem?_drop] at hu
  rw [show off + k + j = off + (k + j) by omega]
  exact h _ _ hu
theorem Lies.take {w : World} {b off : Nat} {cs : List Value} (h : Lies w b off cs) (k : Nat) : Lies w b off (cs.take k) := by
  intro j u hu
  rw [List.getElem?_take] at hu
  split at hu
  · exact h _ _ hu
  · cases hu
theorem lies_nil (w : World) (b off : Nat) : Lies w b off [] := fun j u hu => by simp at hu

/-- a slice's value: n elements of sz cells each, room for c, the cells cs -/
structure Vz (sz : Nat) (w : World) (ao : Option Addr) (n c b off : Nat) (cs : List Value) : Prop where
  len : cs.length = n * sz
  le : n ≤ c
  max : c ≤ maxLen
  addr : 0 < c → ao = some ⟨b, off, none⟩
  lies : Lies w b off cs

/-- .. in memory that is one's own from block B on -/
structure Oz (sz B : Nat) (w : World) (ao : Option Addr) (n c b off : Nat) (cs : List Value) : Prop where
  v : Vz sz w ao n c b off cs
  new : 0 < c → B ≤ b ∧ b < w.heap.size
  room : ∀ j, j < c * sz → (w.cell? ⟨b, off + j, none⟩).isSome = true ∧ w.frozen? ⟨b, off + j, none⟩ = false

theorem oz_nil (sz B : Nat) (w : World) (ao : Option Addr) : Oz sz B w ao 0 0 0 0 [] :=
  ⟨⟨by simp, Nat.le_refl _, by simp, fun h => absurd h (by omega), lies_nil _ _ _⟩, fun h => absurd h (by omega), fun j h => by simp at h⟩

theorem Vz.below {sz : Nat} {W w : World} {ao : Option Addr} {n c b off : Nat} {cs : List Value} (h : Vz sz W ao n c b off cs) (hb : Below W.heap.size W w) : Vz sz w ao n c b off cs :=
  ⟨h.len, h.le, h.max, h.addr, h.lies.below hb⟩
theorem Oz.block {sz B : Nat} {W w : World} {ao : Option Addr} {n c b off : Nat} {cs : List Value} (h : Oz sz B W ao n c b off cs) (hz : W.heap.size ≤ w.heap.size) (hb : 0 < c → w.heap[b]? = W.heap[b]?) : Oz sz B w ao n c b off cs := by
  by_cases hc : 0 < c
  · have e := hb hc
    refine ⟨⟨h.v.len, h.v.le, h.v.max, h.v.addr, h.v.lies.block e⟩, fun hc => ⟨(h.new hc).1, Nat.lt_of_lt_of_le (h.new hc).2 hz⟩, fun j hj => ?_⟩
    rw [World.cell?_of_block (a := ⟨b, off + j, none⟩) e, World.frozen?_of_block (a := ⟨b, off + j, none⟩) e]
    exact h.room j hj
  · obtain rfl : c = 0 := by omega
    have h0 : n = 0 := by have := h.v.le; omega
    subst h0
    have hcs : cs = [] := List.length_eq_zero_iff.1 (by have := h.v.len; omega)
    subst hcs
    exact ⟨⟨by simp, Nat.le_refl _, by simp, fun h => absurd h (by omega), lies_nil _ _ _⟩, fun h => absurd h (by omega), fun j h => by simp at h⟩
theorem Oz.below {sz B : Nat} {W w : World} {ao : Option Addr} {n c b off : Nat} {cs : List Value} (h : Oz sz B W ao n c b off cs) (hb : Below W.heap.size W w) : Oz sz B w ao n c b off cs :=
  h.block hb.size fun hc => hb.block b (h.new hc).2
theorem Oz.mono {sz B B' : Nat} {W : World} {ao : Option Addr} {n c b off : Nat} {cs : List Value} (h : Oz sz B W ao n c b off cs) (hB : B' ≤ B) : Oz sz B' W ao n c b off cs :=
  ⟨h.v, fun hc => ⟨Nat.le_trans hB (h.new hc).1, (h.new hc).2⟩, h.room⟩

theorem heap_setCells (b : Nat) : ∀ (vs : List Value) (o : Nat) (w : World) (g : Nat), g ≠ b → (w.setCells b o vs).heap[g]? = w.heap[g]?
  | [], _, _, _, _ => rfl
  | v :: r, o, w, g, h => by
    show ((w.setCell ⟨b, o, none⟩ v).setCells b (o + 1) r).heap[g]? = _
    rw [heap_setCells b r (o + 1) _ g h]
    exact Below.heap_setCell _ _ _ _ h
theorem below_setCells {B b : Nat} (hb : B ≤ b) : ∀ (vs : List Value) (o : Nat) (w : World), Below B w (w.setCells b o vs)
  | [], _, _ => Below.refl _ _
  | v :: r, o, w => ((Below.refl B w).setCell (p := ⟨b, o, none⟩) hb v).trans (below_setCells hb r (o + 1) (w.setCell ⟨b, o, none⟩ v))

section
variable {P : Program}
/-- what is appended stands behind what was there; nothing else is written but the slice's own block -/
theorem run_append_own {sz B : Nat} {w : World} {ao : Option Addr} {n c b off : Nat} {cs : List Value} (h : Oz sz B w ao n c b off cs) (hB : B ≤ w.heap.size)
    (t tx ty e : TypeId) (i : TypeInfo) (z : Value) (bytes : Nat) (ht : P.underlying t = some (.slice e)) (hi : P.info? e = some i) (hz : i.zero = some z) (hsize : i.size = sz) (hby : i.bytes = bytes) (hzs : z.cells.size = sz)
    (x : Value) (m : Nat) (news : List Value) (hs : Src P sz tx x m news w) (h63 : n + m ≤ maxLen) (hbytes : (n + m) * bytes ≤ 140737488355328) :
    ∃ ao' c' b' off' w', (Builtin.append_ #[t, tx] ty #[.slice ao n c, x]).run P w = .ok (.slice ao' (n + m) c') w' ∧ Oz sz B w' ao' (n + m) c' b' off' (cs ++ news) ∧ Below B w w' ∧
      (∀ g, g < w.heap.size → (0 < c → g ≠ b) → w'.heap[g]? = w.heap[g]?) ∧ (0 < c' → (0 < c ∧ b' = b) ∨ w.heap.size ≤ b') := by
  subst hsize
  subst hby
  have hnl := hs.newsLen
  have hcl := h.v.len
  have hle := h.v.le
  have hL : (cs ++ news).length = (n + m) * i.size := by rw [List.length_append, hcl, hnl, Nat.add_mul]
  by_cases hr : n + m ≤ c
  · by_cases hc : 0 < c
    · obtain rfl := h.v.addr hc
      have hmul : (n + m) * i.size ≤ c * i.size := Nat.mul_le_mul_right _ hr
      have hcell : ∀ j, j < news.length → (w.cell? ⟨b, off + n * i.size + j, none⟩).isSome = true ∧ w.frozen? ⟨b, off + n * i.size + j, none⟩ = false := by
        intro j hj
        rw [show off + n * i.size + j = off + (n * i.size + j) by omega]
        exact h.room _ (by rw [Nat.add_mul] at hmul; omega)
      refine ⟨some ⟨b, off, none⟩, c, b, off, _, run_append_room_src w t tx ty e i ht hi b off n c x m news hs hr (fun j hj => (hcell j hj).1) (fun j hj => (hcell j hj).2), ⟨⟨hL, hr, h.v.max, fun _ => rfl, ?_⟩, fun _ => ?_, ?_⟩, below_setCells (h.new hc).1 _ _ _, fun g _ hg => heap_setCells _ _ _ _ _ (hg hc), fun _ => Or.inl ⟨hc, rfl⟩⟩
      · intro j u hu
        by_cases hj : j < cs.length
        · rw [List.getElem?_append_left hj] at hu
          rw [World.cell?_setCells_out _ _ _ _ _ (fun _ _ => Or.inl (by dsimp only; omega))]
          exact h.v.lies j u hu
        · rw [List.getElem?_append_right (by omega)] at hu
          have hj' : j - cs.length < news.length := (List.getElem?_eq_some_iff.1 hu).1
          have := World.cell?_setCells_in b news (off + n * i.size) w (fun j hj => (hcell j hj).1) (j - cs.length) hj'
          rw [show off + n * i.size + (j - cs.length) = off + j by omega] at this
          rw [this, ← hu, List.getElem?_eq_getElem hj']
      · exact ⟨(h.new hc).1, Nat.lt_of_lt_of_le (h.new hc).2 (below_setCells (h.new hc).1 _ _ _).size⟩
      · intro j hj
        rw [World.frozen?_setCells]
        refine ⟨?_, (h.room j hj).2⟩
        by_cases hin : n * i.size ≤ j ∧ j < n * i.size + news.length
        · have := World.cell?_setCells_in b news (off + n * i.size) w (fun j hj => (hcell j hj).1) (j - n * i.size) (by omega)
          rw [show off + n * i.size + (j - n * i.size) = off + j by omega] at this
          rw [this]; rfl
        · rw [World.cell?_setCells_out _ _ _ _ _ (fun _ _ => by dsimp only; omega)]
          exact (h.room j hj).1
    · obtain rfl : c = 0 := by omega
      obtain rfl : n = 0 := by omega
      obtain rfl : m = 0 := by omega
      have hcs : cs = [] := List.length_eq_zero_iff.1 (by omega)
      have hne : news = [] := List.length_eq_zero_iff.1 (by omega)
      subst hcs
      subst hne
      refine ⟨ao, 0, 0, 0, w, ?_, oz_nil _ _ _ _, Below.refl _ _, fun _ _ _ => rfl, fun h => absurd h (by omega)⟩
      rcases hs.kind with ⟨e', hk⟩ | hk <;> cases ao <;> simp [Builtin.append_, run_underlying ht, run_underlying hk, sizeOf, typeInfo, hi, hs.len, hs.cells, storeCells]
  · have hold : (Builtin.firstCells i.size n (.slice ao n c)).run P w.drew = .ok cs.toArray w.drew := by
      by_cases hc : 0 < c
      · obtain rfl := h.v.addr hc
        refine run_firstCells_some w.drew i.size n ⟨b, off, none⟩ n c cs hcl (fun j u hu => ?_)
        rw [Addr.add_lit]
        exact h.v.lies j u hu
      · obtain rfl : n = 0 := by omega
        have hcs : cs = [] := List.length_eq_zero_iff.1 (by omega)
        subst hcs
        cases ao with
        | none => exact run_firstCells_none w.drew i.size 0 0 c
        | some a => exact run_firstCells_some w.drew i.size 0 a 0 c [] (by simp) (fun j u hu => by simp at hu)
    have hrun := run_append_grow_src (P := P) w t tx ty e i z ht hi hz ao n c cs hold x m news hs (by omega) (by simp only [maxLen] at h63; omega) (growslice_fits (by omega) hbytes)
    have hge := grownCap_ge w (n + m) c e
    have hcm := grownCap_le_maxLen w (n + m) c e h63
    have hmul : (n + m) * i.size ≤ grownCap w (n + m) c e * i.size := Nat.mul_le_mul_right _ hge
    have hblk : ∀ k, k < w.heap.size → (w.drew.alloc (.cells ((cs ++ news).toArray ++ Builtin.zeroCells z.cells (grownCap w (n + m) c e - (n + m))) e)).heap[k]? = w.heap[k]? := fun k hk => Below.heap_alloc w.drew _ k hk
    have hsz : ((cs ++ news).toArray ++ Builtin.zeroCells z.cells (grownCap w (n + m) c e - (n + m))).size = grownCap w (n + m) c e * i.size := by
      rw [Array.size_append, List.size_toArray, hL, size_zeroCells, hzs, Nat.sub_mul]; omega
    refine ⟨_, _, w.heap.size, 0, _, hrun, ⟨⟨hL, hge, hcm, fun _ => rfl, ?_⟩, fun _ => ⟨hB, by simp⟩, ?_⟩, ⟨rfl, rfl, rfl, by simp, fun k hk => hblk k (by omega)⟩, fun g hg _ => hblk g hg, fun _ => Or.inr (Nat.le_refl _)⟩
    · intro j u hu
      have hj : j < (cs ++ news).length := (List.getElem?_eq_some_iff.1 hu).1
      have e1 : (w.drew.alloc (.cells ((cs ++ news).toArray ++ Builtin.zeroCells z.cells (grownCap w (n + m) c e - (n + m))) e)).cell? ⟨w.heap.size, j, none⟩ = _ := World.cell?_alloc_new w.drew _ _ j
      rw [Nat.zero_add, e1, Array.getElem?_append_left (by simp only [List.size_toArray]; exact hj), List.getElem?_toArray]
      exact hu
    · intro j hj
      have e1 : (w.drew.alloc (.cells ((cs ++ news).toArray ++ Builtin.zeroCells z.cells (grownCap w (n + m) c e - (n + m))) e)).cell? ⟨w.heap.size, j, none⟩ = _ := World.cell?_alloc_new w.drew _ _ j
      rw [Nat.zero_add, e1]
      exact ⟨by rw [Array.getElem?_eq_getElem (by rw [hsz]; exact hj)]; rfl, World.frozen?_alloc_new w.drew _ _ j⟩
end

end Go.Proofs.YtamojciiacmjaaaDoor.Rg
/- Lists of rectangles in memory: four cells each. -/
namespace Go.Proofs.YtamojciiacmjaaaDoor.Rg
open Num Go.RowKit
set_option linter.unusedVariables false

theorem ret_int {k : IntKind} {a b : Int} (h : a = b) : Ending.returned (.int k a) = .returned (.int k b) := by rw [h]
theorem ret_bool {a b : Bool} (h : a = b) : Ending.returned (.bool a) = .returned (.bool b) := by rw [h]

def cells4 (r : R) : List Value := [.int .i64 r.x0, .int .i64 r.y0, .int .i64 r.x1, .int .i64 r.y1]
def flat (l : List R) : List Value := l.flatMap cells4
def ints (l : List Int) : List Value := l.map (Value.int .i64)

theorem flat_cons (r : R) (l : List R) : flat (r :: l) = .int .i64 r.x0 :: .int .i64 r.y0 :: .int .i64 r.x1 :: .int .i64 r.y1 :: flat l := rfl
theorem flat_nil : flat [] = [] := rfl
theorem flat_len : ∀ l : List R, (flat l).length = l.length * 4
  | [] => rfl
  | r :: l => by rw [flat_cons]; simp only [List.length_cons]; rw [flat_len l]; omega
theorem flat_append (a b : List R) : flat (a ++ b) = flat a ++ flat b := by unfold flat; rw [List.flatMap_append]
theorem flat_drop : ∀ (l : List R) (k : Nat), flat (l.drop k) = (flat l).drop (k * 4)
  | l, 0 => by simp
  | [], k + 1 => by simp [flat_nil]
  | r :: l, k + 1 => by
    rw [List.drop_succ_cons, flat_cons, show (k + 1) * 4 = k * 4 + 1 + 1 + 1 + 1 by omega, List.drop_succ_cons, List.drop_succ_cons, List.drop_succ_cons, List.drop_succ_cons]
    exact flat_drop l k
theorem flat_take : ∀ (l : List R) (k : Nat), flat (l.take k) = (flat l).take (k * 4)
  | l, 0 => by simp [flat_nil]
  | [], k + 1 => by simp [flat_nil]
  | r :: l, k + 1 => by
    rw [List.take_succ_cons, flat_cons, flat_cons, show (k + 1) * 4 = k * 4 + 1 + 1 + 1 + 1 by omega, List.take_succ_cons, List.take_succ_cons, List.take_succ_cons, List.take_succ_cons, flat_take l k]
theorem flat_at {l : List R} {i : Nat} {r : R} (h : l[i]? = some r) : (flat l)[i * 4]? = some (.int .i64 r.x0) ∧ (flat l)[i * 4 + 1]? = some (.int .i64 r.y0) ∧ (flat l)[i * 4 + 2]? = some (.int .i64 r.x1) ∧ (flat l)[i * 4 + 3]? = some (.int .i64 r.y1) := by
  have hd : flat (l.drop i) = .int .i64 r.x0 :: .int .i64 r.y0 :: .int .i64 r.x1 :: .int .i64 r.y1 :: flat (l.drop (i + 1)) := by
    obtain ⟨hi, rfl⟩ := List.getElem?_eq_some_iff.1 h
    rw [List.drop_eq_getElem_cons hi]; rfl
  rw [flat_drop] at hd
  have e : ∀ j, (flat l)[i * 4 + j]? = ((flat l).drop (i * 4))[j]? := fun j => by rw [List.getElem?_drop]
  have e0 := e 0
  rw [Nat.add_zero] at e0
  rw [e0, e 1, e 2, e 3, hd]
  exact ⟨rfl, rfl, rfl, rfl⟩
theorem ints_at {l : List Int} {i : Nat} {n : Int} (h : l[i]? = some n) : (ints l)[i]? = some (.int .i64 n) := by unfold ints; rw [List.getElem?_map, h]; rfl
theorem ints_len (l : List Int) : (ints l).length = l.length * 1 := by unfold ints; simp
theorem ints_append (a b : List Int) : ints (a ++ b) = ints a ++ ints b := by unfold ints; rw [List.map_append]

/-- a slice of rectangles -/
abbrev Vw (w : World) (ao : Option Addr) (n c b off : Nat) (l : List R) : Prop := Vz 4 w ao n c b off (flat l)
abbrev Ow (B : Nat) (w : World) (ao : Option Addr) (n c b off : Nat) (l : List R) : Prop := Oz 4 B w ao n c b off (flat l)
abbrev Vi (w : World) (ao : Option Addr) (n c b off : Nat) (l : List Int) : Prop := Vz 1 w ao n c b off (ints l)
abbrev Oi (B : Nat) (w : World) (ao : Option Addr) (n c b off : Nat) (l : List Int) : Prop := Oz 1 B w ao n c b off (ints l)

theorem vw_len {w : World} {ao : Option Addr} {n c b off : Nat} {l : List R} (h : Vw w ao n c b off l) : l.length = n := by have := h.len; rw [flat_len] at this; omega
theorem vi_len {w : World} {ao : Option Addr} {n c b off : Nat} {l : List Int} (h : Vi w ao n c b off l) : l.length = n := by have := h.len; rw [ints_len] at this; omega
theorem vw_small {sz : Nat} {w : World} {ao : Option Addr} {n c b off : Nat} {l : List Value} (h : Vz sz w ao n c b off l) : n ≤ 9223372036854775807 := by have h1 := h.le; have h2 := h.max; simp only [maxLen] at h2; omega
theorem vw_at {w : World} {ao : Option Addr} {n c b off : Nat} {l : List R} (h : Vw w ao n c b off l) {i : Nat} {r : R} (hi : l[i]? = some r) :
    ao = some ⟨b, off, none⟩ ∧ w.cell? ⟨b, off + i * 4, none⟩ = some (.int .i64 r.x0) ∧ w.cell? ⟨b, off + i * 4 + 1, none⟩ = some (.int .i64 r.y0) ∧ w.cell? ⟨b, off + i * 4 + 2, none⟩ = some (.int .i64 r.x1) ∧ w.cell? ⟨b, off + i * 4 + 3, none⟩ = some (.int .i64 r.y1) := by
  have hl := vw_len h
  have hlt : i < l.length := (List.getElem?_eq_some_iff.1 hi).1
  obtain ⟨e0, e1, e2, e3⟩ := flat_at hi
  exact ⟨h.addr (by have := h.le; omega), h.lies _ _ e0, h.lies _ _ e1, h.lies _ _ e2, h.lies _ _ e3⟩
theorem vw_at0 {w : World} {ao : Option Addr} {n c b off : Nat} {l : List R} {r : R} (h : Vw w ao n c b off (r :: l)) :
    ao = some ⟨b, off, none⟩ ∧ w.cell? ⟨b, off, none⟩ = some (.int .i64 r.x0) ∧ w.cell? ⟨b, off + 1, none⟩ = some (.int .i64 r.y0) ∧ w.cell? ⟨b, off + 2, none⟩ = some (.int .i64 r.x1) ∧ w.cell? ⟨b, off + 3, none⟩ = some (.int .i64 r.y1) := by
  have := vw_at h (i := 0) (r := r) rfl
  simpa using this
theorem vi_at {w : World} {ao : Option Addr} {n c b off : Nat} {l : List Int} (h : Vi w ao n c b off l) {i : Nat} {m : Int} (hi : l[i]? = some m) : ao = some ⟨b, off, none⟩ ∧ w.cell? ⟨b, off + i, none⟩ = some (.int .i64 m) := by
  have hl := vi_len h
  have hlt : i < l.length := (List.getElem?_eq_some_iff.1 hi).1
  exact ⟨h.addr (by have := h.le; omega), h.lies _ _ (ints_at hi)⟩
theorem vw_nil (w : World) (ao : Option Addr) : Vw w ao 0 0 0 0 [] := (oz_nil 4 0 w ao).v

/-- a part of a slice -/
theorem vw_drop {w : World} {ao : Option Addr} {n c b off : Nat} {l : List R} (h : Vw w ao n c b off l) {k : Nat} (hk : k ≤ n) : Vw w (if c = k then ao else ao.map (fun a => a.add (k * 4))) (n - k) (c - k) b (off + k * 4) (l.drop k) := by
  have hl := vw_len h
  have hle := h.le
  have hm := h.max
  refine ⟨by rw [flat_len, List.length_drop, hl], by omega, by omega, fun hc => ?_, ?_⟩
  · rw [if_neg (by omega), h.addr (by omega)]
    simp only [Option.map_some, Addr.add]
    split
    · rename_i e
      rw [e, Nat.add_zero]
    · rfl
  · rw [flat_drop]
    exact h.lies.drop _
theorem vw_drop0 {w : World} {ao ao' : Option Addr} {n c b off : Nat} {l : List R} (h : Vw w ao n c b off l) {k : Nat} (hk : k ≤ n) (hc : c = k) : Vw w ao' (n - k) 0 0 0 (l.drop k) := by
  have hl := vw_len h
  have hle := h.le
  rw [List.drop_eq_nil_of_le (by omega), show n - k = 0 by omega]
  exact vw_nil _ _
theorem vw_dropS {w : World} {n c b off : Nat} {l : List R} (h : Vw w (some ⟨b, off, none⟩) n c b off l) {k : Nat} (hk : k ≤ n) : Vw w (some ⟨b, off + k * 4, none⟩) (n - k) (c - k) b (off + k * 4) (l.drop k) := by
  have hl := vw_len h
  have hle := h.le
  have hm := h.max
  refine ⟨by rw [flat_len, List.length_drop, hl], by omega, by omega, fun hc => rfl, ?_⟩
  rw [flat_drop]
  exact h.lies.drop _
/-- a slice is answered -/
def RetV (w : World) (e : Ending) (l : List R) : Prop := ∃ ao n c b off, e = .returned (.slice ao n c) ∧ Vw w ao n c b off l
def RetO (B : Nat) (w : World) (e : Ending) (l : List R) : Prop := ∃ ao n c b off, e = .returned (.slice ao n c) ∧ Ow B w ao n c b off l
theorem vw_take {w : World} {ao : Option Addr} {n c b off : Nat} {l : List R} (h : Vw w ao n c b off l) {k : Nat} (hk : k ≤ n) : Vw w ao k c b off (l.take k) := by
  have hl := vw_len h
  refine ⟨by rw [flat_len, List.length_take]; omega, by have := h.le; omega, h.max, h.addr, ?_⟩
  rw [flat_take]
  exact h.lies.take _

end Go.Proofs.YtamojciiacmjaaaDoor.Rg
