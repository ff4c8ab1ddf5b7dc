import Derived.Test.YteiihgoobhlkbaaDoorChecked
import Derived.Test.YteiihgoobhlkbaaDoorRgPlain
import Derived.WalkKit
import Derived.WalkLawsBesides
import Derived.Outline
import Derived.Handy
import Derived.Deep.AppendSrc
import Derived.Deep.LoopGhost
import Derived.Deep.Light
import Derived.Deep.QuietTactic
import Derived.BigQuiet
import Derived.Deep.RegionLaw
import Derived.BigRegion
/- Slices in memory: where their cells lie, and what an append makes of them. -/
namespace Go.Proofs.YteiihgoobhlkbaaDoor.Rg
open Num Go.RowKit
set_option linter.unusedVariables false

/-- the cells lie there, one behind the other -/
def Lies (w : World) (b off : Nat) (cs : List Value) : Prop := ∀ j u, cs[j]? = some u → w.cell? ⟨b, off + j, none⟩ = some u

theorem Lies.lt {w : World} {b off : Nat} {cs : List Value} (h : Lies w b off cs) (hn : 0 < cs.length) : b < w.heap.size :=
  World.block_lt_of_cell? w ⟨b, off + 0, none⟩ (h 0 _ (List.getElem?_eq_getElem hn))
theorem Lies.block {w w' : World} {b off : Nat} {cs : List Value} (h : Lies w b off cs) (e : w'.heap[b]? = w.heap[b]?) : Lies w' b off cs :=
  fun j u hu => (World.cell?_of_block (a := ⟨b, off + j, none⟩) e).trans (h j u hu)
theorem Lies.below {W w : World} {b off : Nat} {cs : List Value} (h : Lies W b off cs) (hb : Below W.heap.size W w) : Lies w b off cs := by
  intro j u hu
  have hj : j < cs.length := (List.getElem?_eq_some_iff.1 hu).1
  exact (World.cell?_of_block (a := ⟨b, off + j, none⟩) (hb.block b (h.lt (by omega)))).trans (h j u hu)
theorem Lies.drop {w : World} {b off : Nat} {cs : List Value} (h : Lies w b off cs) (k : Nat) : Lies w b (off + k) (cs.drop k) := by
  intro j u hu
  rw [List.getElem?_drop] at hu
  rw [show off + k + j = off + (k + j) by omega]
  exact h _ _ hu
theorem Lies.take {w : World} {b off : Nat} {cs : List Value} (h : Lies w b off cs) (k : Nat) : Lies w b off (cs.take k) := by
  intro j u hu
  rw [List.getElem?_take] at hu
  split at hu
  · exact h _ _ hu
  · cases hu
theorem lies_nil (w : World) (b off : Nat) : Lies w b off [] := fun j u hu => by simp at hu

/-- a slice's value: n elements of sz cells each, room for c, the cells cs -/
structure Vz (sz : Nat) (w : World) (ao : Option Addr) (n c b off : Nat) (cs : List Value) : Prop where
  len : cs.length = n * sz
  le : n ≤ c
  max : c ≤ maxLen
  addr : 0 < c → ao = some ⟨b, off, none⟩
  lies : Lies w b off cs

/-- .. in memory that is one's own from block B on -/
structure Oz (sz B : Nat) (w : World) (ao : Option Addr) (n c b off : Nat) (cs : List Value) : Prop where
  v : Vz sz w ao n c b off cs
  new : 0 < c → B ≤ b ∧ b < w.heap.size
  room : ∀ j, j < c * sz → (w.cell? ⟨b, off + j, none⟩).isSome = true ∧ w.frozen? ⟨b, off + j, none⟩ = false

theorem oz_nil (sz B : Nat) (w : World) (ao : Option Addr) : Oz sz B w ao 0 0 0 0 [] :=
  ⟨⟨by simp, Nat.le_refl _, by simp, fun h => absurd h (by omega), lies_nil _ _ _⟩, fun h => absurd h (by omega), fun j h => by simp at h⟩

theorem Vz.below {sz : Nat} {W w : World} {ao : Option Addr} {n c b off : Nat} {cs : List Value} (h : Vz sz W ao n c b off cs) (hb : Below W.heap.size W w) : Vz sz w ao n c b off cs :=
  ⟨h.len, h.le, h.max, h.addr, h.lies.below hb⟩
theorem Oz.block {sz B : Nat} {W w : World} {ao : Option Addr} {n c b off : Nat} {cs : List Value} (h : Oz sz B W ao n c b off cs) (hz : W.heap.size ≤ w.heap.size) (hb : 0 < c → w.heap[b]? = W.heap[b]?) : Oz sz B w ao n c b off cs := by
  by_cases hc : 0 < c
  · have e := hb hc
    refine ⟨⟨h.v.len, h.v.le, h.v.max, h.v.addr, h.v.lies.block e⟩, fun hc => ⟨(h.new hc).1, Nat.lt_of_lt_of_le (h.new hc).2 hz⟩, fun j hj => ?_⟩
    rw [World.cell?_of_block (a := ⟨b, off + j, none⟩) e, World.frozen?_of_block (a := ⟨b, off + j, none⟩) e]
    exact h.room j hj
  · obtain rfl : c = 0 := by omega
    have h0 : n = 0 := by have := h.v.le; omega
    subst h0
    have hcs : cs = [] := List.length_eq_zero_iff.1 (by have := h.v.len; omega)
    subst hcs
    exact ⟨⟨by simp, Nat.le_refl _, by simp, fun h => absurd h (by omega), lies_nil _ _ _⟩, fun h => absurd h (by omega), fun j h => by simp at h⟩
theorem Oz.below {sz B : Nat} {W w : World} {ao : Option Addr} {n c b off : Nat} {cs : List Value} (h : Oz sz B W ao n c b off cs) (hb : Below W.heap.size W w) : Oz sz B w ao n c b off cs :=
  h.block hb.size fun hc => hb.block b (h.new hc).2
theorem Oz.mono {sz B B' : Nat} {W : World} {ao : Option Addr} {n c b off : Nat} {cs : List Value} (h : Oz sz B W ao n c b off cs) (hB : B' ≤ B) : Oz sz B' W ao n c b off cs :=
  ⟨h.v, fun hc => ⟨Nat.le_trans hB (h.new hc).1, (h.new hc).2⟩, h.room⟩

theorem heap_setCells (b : Nat) : ∀ (vs : List Value) (o : Nat) (w : World) (g : Nat), g ≠ b → (w.setCells b o vs).heap[g]? = w.heap[g]?
  | [], _, _, _, _ => rfl
  | v :: r, o, w, g, h => by
    show ((w.setCell ⟨b, o, none⟩ v).setCells b (o + 1) r).heap[g]? = _
    rw [heap_setCells b r (o + 1) _ g h]
    exact Below.heap_setCell _ _ _ _ h
theorem below_setCells {B b : Nat} (hb : B ≤ b) : ∀ (vs : List Value) (o : Nat) (w : World), Below B w (w.setCells b o vs)
  | [], _, _ => Below.refl _ _
  | v :: r, o, w => ((Below.refl B w).setCell (p := ⟨b, o, none⟩) hb v).trans (below_setCells hb r (o + 1) (w.setCell ⟨b, o, none⟩ v))

section
variable {P : Program}
/-- what is appended stands behind what was there; nothing else is written but the slice's own block -/
theorem run_append_own {sz B : Nat} {w : World} {ao : Option Addr} {n c b off : Nat} {cs : List Value} (h : Oz sz B w ao n c b off cs) (hB : B ≤ w.heap.size)
    (t tx ty e : TypeId) (i : TypeInfo) (z : Value) (bytes : Nat) (ht : P.underlying t = some (.slice e)) (hi : P.info? e = some i) (hz : i.zero = some z) (hsize : i.size = sz) (hby : i.bytes = bytes) (hzs : z.cells.size = sz)
    (x : Value) (m : Nat) (news : List Value) (hs : Src P sz tx x m news w) (h63 : n + m ≤ maxLen) (hbytes : (n + m) * bytes ≤ 140737488355328) :
    ∃ ao' c' b' off' w', (Builtin.append_ #[t, tx] ty #[.slice ao n c, x]).run P w = .ok (.slice ao' (n + m) c') w' ∧ Oz sz B w' ao' (n + m) c' b' off' (cs ++ news) ∧ Below B w w' ∧
      (∀ g, g < w.heap.size → (0 < c → g ≠ b) → w'.heap[g]? = w.heap[g]?) ∧ (0 < c' → (0 < c ∧ b' = b) ∨ w.heap.size ≤ b') := by
  subst hsize
  subst hby
  have hnl := hs.newsLen
  have hcl := h.v.len
  have hle := h.v.le
  have hL : (cs ++ news).length = (n + m) * i.size := by rw [List.length_append, hcl, hnl, Nat.add_mul]
  by_cases hr : n + m ≤ c
  · by_cases hc : 0 < c
    · obtain rfl := h.v.addr hc
      have hmul : (n + m) * i.size ≤ c * i.size := Nat.mul_le_mul_right _ hr
      have hcell : ∀ j, j < news.length → (w.cell? ⟨b, off + n * i.size + j, none⟩).isSome = true ∧ w.frozen? ⟨b, off + n * i.size + j, none⟩ = false := by
        intro j hj
        rw [show off + n * i.size + j = off + (n * i.size + j) by omega]
        exact h.room _ (by rw [Nat.add_mul] at hmul; omega)
      refine ⟨some ⟨b, off, none⟩, c, b, off, _, run_append_room_src w t tx ty e i ht hi b off n c x m news hs hr (fun j hj => (hcell j hj).1) (fun j hj => (hcell j hj).2), ⟨⟨hL, hr, h.v.max, fun _ => rfl, ?_⟩, fun _ => ?_, ?_⟩, below_setCells (h.new hc).1 _ _ _, fun g _ hg => heap_setCells _ _ _ _ _ (hg hc), fun _ => Or.inl ⟨hc, rfl⟩⟩
      · intro j u hu
        by_cases hj : j < cs.length
        · rw [List.getElem?_append_left hj] at hu
          rw [World.cell?_setCells_out _ _ _ _ _ (fun _ _ => Or.inl (by dsimp only; omega))]
          exact h.v.lies j u hu
        · rw [List.getElem?_append_right (by omega)] at hu
          have hj' : j - cs.length < news.length := (List.getElem?_eq_some_iff.1 hu).1
          have := World.cell?_setCells_in b news (off + n * i.size) w (fun j hj => (hcell j hj).1) (j - cs.length) hj'
          rw [show off + n * i.size + (j - cs.length) = off + j by omega] at this
          rw [this, ← hu, List.getElem?_eq_getElem hj']
      · exact ⟨(h.new hc).1, Nat.lt_of_lt_of_le (h.new hc).2 (below_setCells (h.new hc).1 _ _ _).size⟩
      · intro j hj
        rw [World.frozen?_setCells]
        refine ⟨?_, (h.room j hj).2⟩
        by_cases hin : n * i.size ≤ j ∧ j < n * i.size + news.length
        · have := World.cell?_setCells_in b news (off + n * i.size) w (fun j hj => (hcell j hj).1) (j - n * i.size) (by omega)
          rw [show off + n * i.size + (j - n * i.size) = off + j by omega] at this
          rw [this]; rfl
        · rw [World.cell?_setCells_out _ _ _ _ _ (fun _ _ => by dsimp only; omega)]
          exact (h.room j hj).1
    · obtain rfl : c = 0 := by omega
      obtain rfl : n = 0 := by omega
      obtain rfl : m = 0 := by omega
      have hcs : cs = [] := List.length_eq_zero_iff.1 (by omega)
      have hne : news = [] := List.length_eq_zero_iff.1 (by omega)
      subst hcs
      subst hne
      refine ⟨ao, 0, 0, 0, w, ?_, oz_nil _ _ _ _, Below.refl _ _, fun _ _ _ => rfl, fun h => absurd h (by omega)⟩
      rcases hs.kind with ⟨e', hk⟩ | hk <;> cases ao <;> simp [Builtin.append_, run_underlying ht, run_underlying hk, sizeOf, typeInfo, hi, hs.len, hs.cells, storeCells]
  · have hold : (Builtin.firstCells i.size n (.slice ao n c)).run P w.drew = .ok cs.toArray w.drew := by
      by_cases hc : 0 < c
      · obtain rfl := h.v.addr hc
        refine run_firstCells_some w.drew i.size n ⟨b, off, none⟩ n c cs hcl (fun j u hu => ?_)
        rw [Addr.add_lit]
        exact h.v.lies j u hu
      · obtain rfl : n = 0 := by omega
        have hcs : cs = [] := List.length_eq_zero_iff.1 (by omega)
        subst hcs
        cases ao with
        | none => exact run_firstCells_none w.drew i.size 0 0 c
        | some a => exact run_firstCells_some w.drew i.size 0 a 0 c [] (by simp) (fun j u hu => by simp at hu)
    have hrun := run_append_grow_src (P := P) w t tx ty e i z ht hi hz ao n c cs hold x m news hs (by omega) (by simp only [maxLen] at h63; omega) (growslice_fits (by omega) hbytes)
    have hge := grownCap_ge w (n + m) c e
    have hcm := grownCap_le_maxLen w (n + m) c e h63
    have hmul : (n + m) * i.size ≤ grownCap w (n + m) c e * i.size := Nat.mul_le_mul_right _ hge
    have hblk : ∀ k, k < w.heap.size → (w.drew.alloc (.cells ((cs ++ news).toArray ++ Builtin.zeroCells z.cells (grownCap w (n + m) c e - (n + m))) e)).heap[k]? = w.heap[k]? := fun k hk => Below.heap_alloc w.drew _ k hk
    have hsz : ((cs ++ news).toArray ++ Builtin.zeroCells z.cells (grownCap w (n + m) c e - (n + m))).size = grownCap w (n + m) c e * i.size := by
      rw [Array.size_append, List.size_toArray, hL, size_zeroCells, hzs, Nat.sub_mul]; omega
    refine ⟨_, _, w.heap.size, 0, _, hrun, ⟨⟨hL, hge, hcm, fun _ => rfl, ?_⟩, fun _ => ⟨hB, by simp⟩, ?_⟩, ⟨rfl, rfl, rfl, by simp, fun k hk => hblk k (by omega)⟩, fun g hg _ => hblk g hg, fun _ => Or.inr (Nat.le_refl _)⟩
    · intro j u hu
      have hj : j < (cs ++ news).length := (List.getElem?_eq_some_iff.1 hu).1
      have e1 : (w.drew.alloc (.cells ((cs ++ news).toArray ++ Builtin.zeroCells z.cells (grownCap w (n + m) c e - (n + m))) e)).cell? ⟨w.heap.size, j, none⟩ = _ := World.cell?_alloc_new w.drew _ _ j
      rw [Nat.zero_add, e1, Array.getElem?_append_left (by simp only [List.size_toArray]; exact hj), List.getElem?_toArray]
      exact hu
    · intro j hj
      have e1 : (w.drew.alloc (.cells ((cs ++ news).toArray ++ Builtin.zeroCells z.cells (grownCap w (n + m) c e - (n + m))) e)).cell? ⟨w.heap.size, j, none⟩ = _ := World.cell?_alloc_new w.drew _ _ j
      rw [Nat.zero_add, e1]
      exact ⟨by rw [Array.getElem?_eq_getElem (by rw [hsz]; exact hj)]; rfl, World.frozen?_alloc_new w.drew _ _ j⟩
end

end Go.Proofs.YteiihgoobhlkbaaDoor.Rg
/- Lists of rectangles in memory: four cells each. -/
namespace Go.Proofs.YteiihgoobhlkbaaDoor.Rg
open Num Go.RowKit
set_option linter.unusedVariables false

theorem ret_int {k : IntKind} {a b : Int} (h : a = b) : Ending.returned (.int k a) = .returned (.int k b) := by rw [h]
theorem ret_bool {a b : Bool} (h : a = b) : Ending.returned (.bool a) = .returned (.bool b) := by rw [h]

def cells4 (r : R) : List Value := [.int .i64 r.x0, .int .i64 r.y0, .int .i64 r.x1, .int .i64 r.y1]
def flat (l : List R) : List Value := l.flatMap cells4
def ints (l : List Int) : List Value := l.map (Value.int .i64)

theorem flat_cons (r : R) (l : List R) : flat (r :: l) = .int .i64 r.x0 :: .int .i64 r.y0 :: .int .i64 r.x1 :: .int .i64 r.y1 :: flat l := rfl
theorem flat_nil : flat [] = [] := rfl
theorem flat_len : ∀ l : List R, (flat l).length = l.length * 4
  | [] => rfl
  | r :: l => by rw [flat_cons]; simp only [List.length_cons]; rw [flat_len l]; omega
theorem flat_append (a b : List R) : flat (a ++ b) = flat a ++ flat b := by unfold flat; rw [List.flatMap_append]
theorem flat_drop : ∀ (l : List R) (k : Nat), flat (l.drop k) = (flat l).drop (k * 4)
  | l, 0 => by simp
  | [], k + 1 => by simp [flat_nil]
  | r :: l, k + 1 => by
    rw [List.drop_succ_cons, flat_cons, show (k + 1) * 4 = k * 4 + 1 + 1 + 1 + 1 by omega, List.drop_succ_cons, List.drop_succ_cons, List.drop_succ_cons, List.drop_succ_cons]
    exact flat_drop l k
theorem flat_take : ∀ (l : List R) (k : Nat), flat (l.take k) = (flat l).take (k * 4)
  | l, 0 => by simp [flat_nil]
  | [], k + 1 => by simp [flat_nil]
  | r :: l, k + 1 => by
    rw [List.take_succ_cons, flat_cons, flat_cons, show (k + 1) * 4 = k * 4 + 1 + 1 + 1 + 1 by omega, List.take_succ_cons, List.take_succ_cons, List.take_succ_cons, List.take_succ_cons, flat_take l k]
theorem flat_at {l : List R} {i : Nat} {r : R} (h : l[i]? = some r) : (flat l)[i * 4]? = some (.int .i64 r.x0) ∧ (flat l)[i * 4 + 1]? = some (.int .i64 r.y0) ∧ (flat l)[i * 4 + 2]? = some (.int .i64 r.x1) ∧ (flat l)[i * 4 + 3]? = some (.int .i64 r.y1) := by
  have hd : flat (l.drop i) = .int .i64 r.x0 :: .int .i64 r.y0 :: .int .i64 r.x1 :: .int .i64 r.y1 :: flat (l.drop (i + 1)) := by
    obtain ⟨hi, rfl⟩ := List.getElem?_eq_some_iff.1 h
    rw [List.drop_eq_getElem_cons hi]; rfl
  rw [flat_drop] at hd
  have e : ∀ j, (flat l)[i * 4 + j]? = ((flat l).drop (i * 4))[j]? := fun j => by rw [List.getElem?_drop]
  have e0 := e 0
  rw [Nat.add_zero] at e0
  rw [e0, e 1, e 2, e 3, hd]
  exact ⟨rfl, rfl, rfl, rfl⟩
theorem ints_at {l : List Int} {i : Nat} {n : Int} (h : l[i]? = some n) : (ints l)[i]? = some (.int .i64 n) := by unfold ints; rw [List.getElem?_map, h]; rfl
theorem ints_len (l : List Int) : (ints l).length = l.length * 1 := by unfold ints; simp
theorem ints_append (a b : List Int) : ints (a ++ b) = ints a ++ ints b := by unfold ints; rw [List.map_append]

/-- a slice of rectangles -/
abbrev Vw (w : World) (ao : Option Addr) (n c b off : Nat) (l : List R) : Prop := Vz 4 w ao n c b off (flat l)
abbrev Ow (B : Nat) (w : World) (ao : Option Addr) (n c b off : Nat) (l : List R) : Prop := Oz 4 B w ao n c b off (flat l)
abbrev Vi (w : World) (ao : Option Addr) (n c b off : Nat) (l : List Int) : Prop := Vz 1 w ao n c b off (ints l)
abbrev Oi (B : Nat) (w : World) (ao : Option Addr) (n c b off : Nat) (l : List Int) : Prop := Oz 1 B w ao n c b off (ints l)

theorem vw_len {w : World} {ao : Option Addr} {n c b off : Nat} {l : List R} (h : Vw w ao n c b off l) : l.length = n := by have := h.len; rw [flat_len] at this; omega
theorem vi_len {w : World} {ao : Option Addr} {n c b off : Nat} {l : List Int} (h : Vi w ao n c b off l) : l.length = n := by have := h.len; rw [ints_len] at this; omega
theorem vw_small {sz : Nat} {w : World} {ao : Option Addr} {n c b off : Nat} {l : List Value} (h : Vz sz w ao n c b off l) : n ≤ 9223372036854775807 := by have h1 := h.le; have h2 := h.max; simp only [maxLen] at h2; omega
theorem vw_at {w : World} {ao : Option Addr} {n c b off : Nat} {l : List R} (h : Vw w ao n c b off l) {i : Nat} {r : R} (hi : l[i]? = some r) :
    ao = some ⟨b, off, none⟩ ∧ w.cell? ⟨b, off + i * 4, none⟩ = some (.int .i64 r.x0) ∧ w.cell? ⟨b, off + i * 4 + 1, none⟩ = some (.int .i64 r.y0) ∧ w.cell? ⟨b, off + i * 4 + 2, none⟩ = some (.int .i64 r.x1) ∧ w.cell? ⟨b, off + i * 4 + 3, none⟩ = some (.int .i64 r.y1) := by
  have hl := vw_len h
  have hlt : i < l.length := (List.getElem?_eq_some_iff.1 hi).1
  obtain ⟨e0, e1, e2, e3⟩ := flat_at hi
  exact ⟨h.addr (by have := h.le; omega), h.lies _ _ e0, h.lies _ _ e1, h.lies _ _ e2, h.lies _ _ e3⟩
theorem vw_at0 {w : World} {ao : Option Addr} {n c b off : Nat} {l : List R} {r : R} (h : Vw w ao n c b off (r :: l)) :
    ao = some ⟨b, off, none⟩ ∧ w.cell? ⟨b, off, none⟩ = some (.int .i64 r.x0) ∧ w.cell? ⟨b, off + 1, none⟩ = some (.int .i64 r.y0) ∧ w.cell? ⟨b, off + 2, none⟩ = some (.int .i64 r.x1) ∧ w.cell? ⟨b, off + 3, none⟩ = some (.int .i64 r.y1) := by
  have := vw_at h (i := 0) (r := r) rfl
  simpa using this
theorem vi_at {w : World} {ao : Option Addr} {n c b off : Nat} {l : List Int} (h : Vi w ao n c b off l) {i : Nat} {m : Int} (hi : l[i]? = some m) : ao = some ⟨b, off, none⟩ ∧ w.cell? ⟨b, off + i, none⟩ = some (.int .i64 m) := by
  have hl := vi_len h
  have hlt : i < l.length := (List.getElem?_eq_some_iff.1 hi).1
  exact ⟨h.addr (by have := h.le; omega), h.lies _ _ (ints_at hi)⟩
theorem vw_nil (w : World) (ao : Option Addr) : Vw w ao 0 0 0 0 [] := (oz_nil 4 0 w ao).v

/-- a part of a slice -/
theorem vw_drop {w : World} {ao : Option Addr} {n c b off : Nat} {l : List R} (h : Vw w ao n c b off l) {k : Nat} (hk : k ≤ n) : Vw w (if c = k then ao else ao.map (fun a => a.add (k * 4))) (n - k) (c - k) b (off + k * 4) (l.drop k) := by
  have hl := vw_len h
  have hle := h.le
  have hm := h.max
  refine ⟨by rw [flat_len, List.length_drop, hl], by omega, by omega, fun hc => ?_, ?_⟩
  · rw [if_neg (by omega), h.addr (by omega)]
    simp only [Option.map_some, Addr.add]
    split
    · rename_i e
      rw [e, Nat.add_zero]
    · rfl
  · rw [flat_drop]
    exact h.lies.drop _
theorem vw_drop0 {w : World} {ao ao' : Option Addr} {n c b off : Nat} {l : List R} (h : Vw w ao n c b off l) {k : Nat} (hk : k ≤ n) (hc : c = k) : Vw w ao' (n - k) 0 0 0 (l.drop k) := by
  have hl := vw_len h
  have hle := h.le
  rw [List.drop_eq_nil_of_le (by omega), show n - k = 0 by omega]
  exact vw_nil _ _
theorem vw_dropS {w : World} {n c b off : Nat} {l : List R} (h : Vw w (some ⟨b, off, none⟩) n c b off l) {k : Nat} (hk : k ≤ n) : Vw w (some ⟨b, off + k * 4, none⟩) (n - k) (c - k) b (off + k * 4) (l.drop k) := by
  have hl := vw_len h
  have hle := h.le
  have hm := h.max
  refine ⟨by rw [flat_len, List.length_drop, hl], by omega, by omega, fun hc => rfl, ?_⟩
  rw [flat_drop]
  exact h.lies.drop _
/-- a slice is answered -/
def RetV (w : World) (e : Ending) (l : List R) : Prop := ∃ ao n c b off, e = .returned (.slice ao n c) ∧ Vw w ao n c b off l
def RetO (B : Nat) (w : World) (e : Ending) (l : List R) : Prop := ∃ ao n c b off, e = .returned (.slice ao n c) ∧ Ow B w ao n c b off l
theorem vw_take {w : World} {ao : Option Addr} {n c b off : Nat} {l : List R} (h : Vw w ao n c b off l) {k : Nat} (hk : k ≤ n) : Vw w ao k c b off (l.take k) := by
  have hl := vw_len h
  refine ⟨by rw [flat_len, List.length_take]; omega, by have := h.le; omega, h.max, h.addr, ?_⟩
  rw [flat_take]
  exact h.lies.take _

end Go.Proofs.YteiihgoobhlkbaaDoor.Rg
/- The bands of a region: contracts of the small functions that go through them. -/
namespace Go.Proofs.YteiihgoobhlkbaaDoor.Rg
open Num Go.RowKit
set_option linter.unusedVariables false

theorem below_drewN {B : Nat} {a w : World} (h : Below B a w) (n : Nat) : Below B a (w.drewN n) := ⟨h.os, h.tape, h.output, h.size, h.block⟩

theorem first_step {r : R} {t : List R} {k : Nat} (hk : 0 < k) (h : k ≤ (firstL (r :: t)).length) {s : R} (hs : (r :: t)[k]? = some s) : (s.y0 = r.y0 ∧ k + 1 ≤ (firstL (r :: t)).length) ∨ (s.y0 ≠ r.y0 ∧ k = (firstL (r :: t)).length) := by
  obtain ⟨k, rfl⟩ : ∃ j, k = j + 1 := ⟨k - 1, by omega⟩
  simp only [firstL, List.length_cons, List.getElem?_cons_succ] at *
  induction t generalizing k with
  | nil => simp at hs
  | cons u t ih =>
    by_cases hu : u.y0 = r.y0
    · have e : List.takeWhile (fun s => decide (s.y0 = r.y0)) (u :: t) = u :: List.takeWhile (fun s => decide (s.y0 = r.y0)) t := by simp [hu]
      rw [e] at h ⊢
      cases k with
      | zero => simp at hs; subst hs; exact .inl ⟨hu, by simp⟩
      | succ k =>
        have := ih k (by omega) (by simpa using h) (by simpa using hs)
        simp only [List.length_cons]
        omega
    · have e : List.takeWhile (fun s => decide (s.y0 = r.y0)) (u :: t) = [] := by simp [hu]
      rw [e] at h ⊢
      simp at h
      subst h
      simp at hs
      subst hs
      exact .inr ⟨hu, by simp⟩
theorem first_le (l : List R) : (firstL l).length ≤ l.length := by
  cases l with
  | nil => simp [firstL]
  | cons r t => simp only [firstL, List.length_cons]; have := (List.takeWhile_sublist (p := fun s : R => decide (s.y0 = r.y0)) (l := t)).length_le; omega

set_option maxRecDepth 100000 in
theorem first_any (ao : Option Addr) (n c b off : Nat) (l : List R) (w : World) (h : Vw w ao n c b off l) :
    Calls Tryd.prog 91 #[.slice ao n c] w fun e w' => e = .returned (.slice ao (firstL l).length c) ∧ Below w.heap.size w w' := by
  have hl := vw_len h
  have hn := vw_small h
  have hle := h.le
  have hF := first_le l
  have HF : Hid ((firstL l).length ≤ n) := by rw [← hl]; exact hF
  clear hF
  have HG : Hid (∀ k s, k < n → l[k]? = some s → k ≤ (firstL l).length → ∃ r t, l = r :: t ∧ ((s.y0 = r.y0 ∧ k + 1 ≤ (firstL l).length) ∨ (s.y0 ≠ r.y0 ∧ k = (firstL l).length))) := by
    intro k s hk hs hkF
    cases l with
    | nil => simp at hs
    | cons r t =>
      refine ⟨r, t, rfl, ?_⟩
      cases k with
      | zero => simp at hs; subst hs; exact .inl ⟨rfl, by simp [firstL]⟩
      | succ k => exact first_step (by omega) hkF hs
  have H : Hid (Vw w ao n c b off l) := h
  have HL : Hid (l.length = n) := hl
  clear h hl
  go_enter Tryd.func91, Tryd.ntmps91
  go_wp2
  go_loopg [3] n (fun g i wr => ∃ k : Nat, k ≤ (firstL l).length ∧ g = n - k ∧ i = .int .i64 k ∧ Below w.heap.size w wr)
  case atStart => exact ⟨0, Nat.zero_le _, rfl, rfl, Below.refl _ _⟩
  case round =>
    obtain ⟨k, hk, rfl, rfl, hB⟩ := hrel
    have hkn : k ≤ n := Nat.le_trans hk HF.out
    by_cases hlt : k < n
    · have hlz : (k : Int) < (n : Int) := by omega
      obtain ⟨s, hs⟩ : ∃ s, l[k]? = some s := ⟨_, List.getElem?_eq_getElem (by rw [HL.out]; exact hlt)⟩
      obtain ⟨r, t, e, hor⟩ := HG.out k s hlt hs hk
      have hv := H.out.below hB
      obtain ⟨rfl, -, h1, -, -⟩ := vw_at hv hs
      rw [e] at hv
      obtain ⟨-, -, g1, -, -⟩ := vw_at0 hv
      have hn0 : (0 : Int) < (n : Int) := by omega
      have A : Hid (l = r :: t ∧ l[k]? = some s) := ⟨e, hs⟩
      clear e hs hv
      rcases hor with ⟨hy, hk1⟩ | ⟨hy, hk1⟩
      · go_wp2
        go_quiet (fail)
        go_wp2
        go_roundg (n - (k + 1))
        case measure => omega
        case rel => exact ⟨k + 1, hk1, rfl, by simp, below_drewN hB _⟩
      · have K1 : Hid (k = (firstL l).length) := hk1
        clear hk1
        go_wp2
        go_quiet (fail)
        go_wp2
        go_ret
        rw [← K1.out]
        exact ⟨rfl, below_drewN hB _⟩
    · obtain rfl : k = n := by omega
      have hlz : decide ((k : Int) < (k : Int)) = false := by simp
      go_wp2
      go_quiet (fail)
      go_wp2
      go_ret
      have e : (firstL l).length = k := Nat.le_antisymm HF.out hk
      rw [e]
      exact ⟨rfl, below_drewN hB _⟩

theorem nextEdge_any (y : Int) (ao : Option Addr) (n c b off : Nat) (l : List R) (w : World) (h : Vw w ao n c b off l) :
    Calls Tryd.prog 79 #[.slice ao n c, .int .i64 y] w fun e w' => e = .returned (.int .i64 (nextE l y)) ∧ w' = w := by
  have hl := vw_len h
  have hn := vw_small h
  cases l with
  | nil =>
    simp at hl
    subst hl
    go_enter Tryd.func79, Tryd.ntmps79
    go_wp2
    all_goals
      go_ret
      exact ⟨rfl, rfl⟩
  | cons r t =>
    obtain ⟨rfl, -, h1, -, h3⟩ := vw_at0 h
    have hz : ¬ ((n : Int) = 0) := by simp at hl; omega
    have hn0 : 0 < n := by simp at hl; omega
    clear hl
    go_enter Tryd.func79, Tryd.ntmps79
    go_wp2
    all_goals
      go_ret
      first | exact ⟨ret_int (by unfold nextE; dsimp only; rw [if_pos (by assumption)]), rfl⟩ | exact ⟨ret_int (by unfold nextE; dsimp only; rw [if_neg (by omega)]), rfl⟩

theorem first_take (l : List R) : firstL l = l.take (firstL l).length := by
  cases l with
  | nil => rfl
  | cons r t =>
    simp only [firstL, List.length_cons, List.take_succ_cons]
    congr 1
    exact (List.prefix_iff_eq_take.1 (List.takeWhile_prefix _))

theorem bandAt_any (y : Int) (ao : Option Addr) (n c b off : Nat) (l : List R) (W w : World) (hV : Vw W ao n c b off l) (hW : Below W.heap.size W w) :
    Calls Tryd.prog 81 #[.slice ao n c, .int .i64 y] w fun e w' => RetV W e (bandL l y) ∧ Below w.heap.size w w' := by
  have h := hV.below hW
  have HW : Hid (Vw W ao n c b off l) := hV
  clear hV hW
  have hl := vw_len h
  have hn := vw_small h
  cases l with
  | nil =>
    simp at hl
    subst hl
    go_enter Tryd.func81, Tryd.ntmps81
    go_wp2
    all_goals
      go_ret
      exact ⟨⟨_, _, _, 0, 0, rfl, vw_nil _ _⟩, Below.refl _ _⟩
  | cons r t =>
    have H : Hid (Vw w ao n c b off (r :: t)) := h
    obtain ⟨rfl, -, h1, -, h3⟩ := vw_at0 h
    have hz : ¬ ((n : Int) = 0) := by simp at hl; omega
    have hn0 : 0 < n := by simp at hl; omega
    clear hl h
    by_cases hy : y < r.y0
    · have E : Hid (bandL (r :: t) y = []) := by show bandL (r :: t) y = []; simp [bandL, hy]
      go_enter Tryd.func81, Tryd.ntmps81
      go_wp2
      all_goals
        go_ret
        rw [E.out]
        exact ⟨⟨_, _, _, 0, 0, rfl, vw_nil _ _⟩, Below.refl _ _⟩
    · have E : Hid (bandL (r :: t) y = firstL (r :: t)) := by show bandL (r :: t) y = _; simp [bandL, hy]
      go_enter Tryd.func81, Tryd.ntmps81
      go_wp2_with (go_at_call 91; refine (first_any _ _ _ b off (r :: t) _ H.out).mono ?_; rintro e w' ⟨rfl, hb⟩)
      all_goals
        go_ret
        rw [E.out]
        refine ⟨⟨_, _, _, b, off, rfl, ?_⟩, hb⟩
        have := vw_take HW.out (k := (firstL (r :: t)).length) (by rw [← vw_len H.out]; exact first_le _)
        rw [← first_take] at this
        exact this

theorem below_any (y : Int) (ao : Option Addr) (n c b off : Nat) (l : List R) (W w : World) (hV : Vw W ao n c b off l) (hW : Below W.heap.size W w) :
    Calls Tryd.prog 83 #[.slice ao n c, .int .i64 y] w fun e w' => RetV W e (belowL l y) ∧ Below w.heap.size w w' := by
  have h := hV.below hW
  have HW : Hid (Vw W ao n c b off l) := hV
  clear hV hW
  have hl := vw_len h
  have hn := vw_small h
  cases l with
  | nil =>
    simp at hl
    subst hl
    go_enter Tryd.func83, Tryd.ntmps83
    go_wp2
    all_goals
      go_ret
      exact ⟨⟨_, _, _, _, _, rfl, HW.out⟩, Below.refl _ _⟩
  | cons r t =>
    have H : Hid (Vw w ao n c b off (r :: t)) := h
    obtain ⟨rfl, -, h1, -, h3⟩ := vw_at0 h
    have hz : ¬ ((n : Int) = 0) := by simp at hl; omega
    have hn0 : 0 < n := by simp at hl; omega
    have hle := h.le
    have hF : (firstL (r :: t)).length ≤ n := by rw [← hl]; exact first_le _
    clear hl h
    by_cases hy : y < r.y1
    · have E : Hid (belowL (r :: t) y = r :: t) := by show belowL (r :: t) y = _; simp [belowL, hy]
      go_enter Tryd.func83, Tryd.ntmps83
      go_wp2
      all_goals
        go_ret
        rw [E.out]
        exact ⟨⟨_, _, _, _, _, rfl, HW.out⟩, Below.refl _ _⟩
    · have E : Hid (belowL (r :: t) y = (r :: t).drop (firstL (r :: t)).length) := by show belowL (r :: t) y = _; simp [belowL, hy]
      obtain ⟨k, hk⟩ : ∃ k, k = (firstL (r :: t)).length := ⟨_, rfl⟩
      rw [← hk] at hF
      have E' : Hid (belowL (r :: t) y = (r :: t).drop k) := by rw [hk]; exact E
      have hkz : (k : Int) ≤ (n : Int) := by omega
      have K : Hid (k = (firstL (r :: t)).length) := hk
      clear hk E
      go_enter Tryd.func83, Tryd.ntmps83
      go_wp2_with (go_at_call 91; refine (first_any _ _ _ b off (r :: t) _ H.out).mono ?_; rintro e w' ⟨rfl, hb⟩; rw [← K.out])
      all_goals
        go_ret
        rw [E'.out]
      · exact ⟨⟨_, _, _, 0, 0, rfl, vw_drop0 HW.out hF (by first | assumption | omega)⟩, hb⟩
      · exact ⟨⟨_, _, _, b, off + k * 4, rfl, vw_dropS HW.out hF⟩, hb⟩

theorem edges_at : ∀ {l : List R} {i : Nat} {x : Int}, (edges l)[i]? = some x → ∃ r, l[i / 2]? = some r ∧ ((i % 2 = 0 ∧ x = r.x0) ∨ (i % 2 = 1 ∧ x = r.x1))
  | [], i, x, h => by simp [edges] at h
  | r :: t, 0, x, h => ⟨r, rfl, .inl ⟨rfl, by simp [edges] at h; exact h.symm⟩⟩
  | r :: t, 1, x, h => ⟨r, rfl, .inr ⟨rfl, by simp [edges] at h; exact h.symm⟩⟩
  | r :: t, i + 2, x, h => by
    have h' : (edges t)[i]? = some x := by simpa [edges] using h
    obtain ⟨s, hs, ho⟩ := edges_at h'
    refine ⟨s, by rw [show (i + 2) / 2 = i / 2 + 1 by omega]; simpa using hs, by omega⟩
theorem edges_len (l : List R) : (edges l).length = 2 * l.length := by
  induction l with
  | nil => rfl
  | cons r t ih => simp only [edges, List.flatMap_cons, List.length_append, List.length_cons, List.length_nil] at *; omega

theorem edge_any (i : Nat) (ao : Option Addr) (n c b off : Nat) (l : List R) (w : World) (h : Vw w ao n c b off l) (x : Int) (hx : (edges l)[i]? = some x) (hi2 : i ≤ 9223372036854775807) :
    Calls Tryd.prog 89 #[.slice ao n c, .int .i64 i] w fun e w' => e = .returned (.int .i64 x) ∧ Below w.heap.size w w' := by
  obtain ⟨r, hr, ho⟩ := edges_at hx
  have hlt : i / 2 < n := by rw [← vw_len h]; exact (List.getElem?_eq_some_iff.1 hr).1
  obtain ⟨rfl, h0, h1, h2, h3⟩ := vw_at h hr
  clear h hx hr
  rcases ho with ⟨hm, rfl⟩ | ⟨hm, rfl⟩
  · have hz : (i : Int) % 2 = 0 := by omega
    go_enter Tryd.func89, Tryd.ntmps89
    go_wp2
    all_goals
      go_ret
      exact ⟨rfl, by go_grown⟩
  · have hz : (i : Int) % 2 = 1 := by omega
    go_enter Tryd.func89, Tryd.ntmps89
    go_wp2
    all_goals
      go_ret
      exact ⟨rfl, by go_grown⟩
end Go.Proofs.YteiihgoobhlkbaaDoor.Rg
/- Whether two bands are one, and whether bands follow: contracts. -/
namespace Go.Proofs.YteiihgoobhlkbaaDoor.Rg
open Num Go.RowKit
set_option linter.unusedVariables false

theorem seam_len : ∀ {a b : List R}, a.length ≠ b.length → seamB a b = false
  | [], [], h => absurd rfl h
  | [], _ :: _, _ => rfl
  | _ :: _, [], _ => rfl
  | a :: l, b :: m, h => by
    unfold seamB
    split
    · exact seam_len (by simpa using h)
    · rfl
theorem seam_step {a b : List R} {k : Nat} {r s : R} (hr : a[k]? = some r) (hs : b[k]? = some s) : seamB (a.drop k) (b.drop k) = if r.y1 = s.y0 ∧ r.x0 = s.x0 ∧ r.x1 = s.x1 then seamB (a.drop (k + 1)) (b.drop (k + 1)) else false := by
  obtain ⟨h1, rfl⟩ := List.getElem?_eq_some_iff.1 hr
  obtain ⟨h2, rfl⟩ := List.getElem?_eq_some_iff.1 hs
  rw [List.drop_eq_getElem_cons h1, List.drop_eq_getElem_cons h2]
  rfl

set_option maxRecDepth 100000 in
set_option maxHeartbeats 8000000 in
theorem seamless_any (ao : Option Addr) (n c b off : Nat) (l : List R) (ao' : Option Addr) (n' c' b' off' : Nat) (l' : List R) (w : World) (h : Vw w ao n c b off l) (h' : Vw w ao' n' c' b' off' l') :
    Calls Tryd.prog 92 #[.slice ao n c, .slice ao' n' c'] w fun e w' => e = .returned (.bool (seamB l l')) ∧ Below w.heap.size w w' := by
  have hl := vw_len h
  have hn := vw_small h
  have hl' := vw_len h'
  have hn' := vw_small h'
  by_cases he : n = n'
  · subst he
    have H : Hid (Vw w ao n c b off l ∧ Vw w ao' n c' b' off' l' ∧ l.length = n ∧ l'.length = n) := ⟨h, h', hl, hl'⟩
    clear h h' hl hl'
    go_enter Tryd.func92, Tryd.ntmps92
    go_wp2
    go_loopg [14] n (fun g i wr => ∃ k : Nat, k ≤ n ∧ g = n - k ∧ i = .int .i64 k ∧ Below w.heap.size w wr ∧ seamB (l.drop k) (l'.drop k) = seamB l l')
    case atStart => exact ⟨0, Nat.zero_le _, rfl, rfl, Below.refl _ _, rfl⟩
    case round =>
      obtain ⟨k, hk, rfl, rfl, hB, hS⟩ := hrel
      have HS : Hid (seamB (l.drop k) (l'.drop k) = seamB l l') := hS
      clear hS
      by_cases hlt : k < n
      · have hlz : (k : Int) < (n : Int) := by omega
        obtain ⟨hv, hv', hl, hl'⟩ := H.out
        obtain ⟨r, hr⟩ : ∃ s, l[k]? = some s := ⟨_, List.getElem?_eq_getElem (by omega)⟩
        obtain ⟨s, hs⟩ : ∃ s, l'[k]? = some s := ⟨_, List.getElem?_eq_getElem (by omega)⟩
        have hst := seam_step hr hs
        rw [HS.out] at hst
        have HT : Hid _ := hst
        obtain ⟨rfl, h0, h1, h2, h3⟩ := vw_at (hv.below hB) hr
        obtain ⟨rfl, g0, g1, g2, g3⟩ := vw_at (hv'.below hB) hs
        have hb1 : b < wr.heap.size := World.block_lt_of_cell? _ _ h0
        have hb2 : b' < wr.heap.size := World.block_lt_of_cell? _ _ g0
        clear hv hv' hl hl' hr hs hst
        by_cases e1 : r.y1 = s.y0
        · by_cases e2 : r.x0 = s.x0
          · by_cases e3 : r.x1 = s.x1
            · rw [if_pos ⟨e1, e2, e3⟩] at HT
              rw [e1] at h3
              rw [e2] at h0
              rw [e3] at h2
              clear e1 e2 e3
              go_wp2
              go_quiet (fail)
              go_wp2
              go_roundg (n - (k + 1))
              case measure => omega
              case rel => exact ⟨k + 1, hlt, rfl, by simp, below_drewN (hB.alloc hB.size _) _, HT.out.symm⟩
            · rw [if_neg (fun h => e3 h.2.2)] at HT
              rw [e1] at h3
              rw [e2] at h0
              have d1 : (r.x1 != s.x1) = true := by simpa using e3
              clear e1 e2
              go_wp2
              go_quiet (fail)
              go_wp2
              go_ret
              rw [HT.out]
              exact ⟨rfl, below_drewN (hB.alloc hB.size _) _⟩
          · rw [if_neg (fun h => e2 h.2.1)] at HT
            rw [e1] at h3
            have d1 : (r.x0 != s.x0) = true := by simpa using e2
            clear e1
            go_wp2
            go_quiet (fail)
            go_wp2
            go_ret
            rw [HT.out]
            exact ⟨rfl, below_drewN (hB.alloc hB.size _) _⟩
        · rw [if_neg (fun h => e1 h.1)] at HT
          have d1 : (r.y1 != s.y0) = true := by simpa using e1
          go_wp2
          go_quiet (fail)
          go_wp2
          go_ret
          rw [HT.out]
          exact ⟨rfl, below_drewN (hB.alloc hB.size _) _⟩
      · obtain rfl : k = n := by omega
        go_wp2
        go_ret
        obtain ⟨-, -, hl, hl'⟩ := H.out
        rw [← HS.out, List.drop_eq_nil_of_le (by omega), List.drop_eq_nil_of_le (by omega)]
        exact ⟨rfl, hB⟩
  · have E := seam_len (a := l) (b := l') (by omega)
    rw [E]
    have hne : ¬ ((n : Int) = (n' : Int)) := by omega
    clear h h' hl hl' E
    go_enter Tryd.func92, Tryd.ntmps92
    go_wp2
    all_goals
      go_ret
      exact ⟨rfl, Below.refl _ _⟩
end Go.Proofs.YteiihgoobhlkbaaDoor.Rg
/- A strip: what is made of it, an edge at a time. -/
namespace Go.Proofs.YteiihgoobhlkbaaDoor.Rg
open Num Go.RowKit
set_option linter.unusedVariables false

theorem info34 : (Tryd.prog.info? 34).map (fun i => (i.zero, i.size, i.bytes)) = some (some (.agg #[.int .i64 0, .int .i64 0, .int .i64 0, .int .i64 0]), 4, 32) := by kernel_rfl

section
variable {P : Program}
theorem step_append_own {ops : Array Oper} {o : Oper} {a : Act} {w : World} {K : Act → World → Prop} {Q : Exit → Act → World → Prop} {E : Prop}
    (hg : o.guard = none) (s x : Operand) (t tx : TypeId) (hop : o.op = Op.call { callee := Callee.builtin Builtin.append, args := #[s, x], argTypes := #[t, tx] })
    {sz B : Nat} {ao : Option Addr} {n c b off : Nat} {cs : List Value} (h : Oz sz B w ao n c b off cs) (hB : B ≤ w.heap.size)
    (e : TypeId) (i : TypeInfo) (z : Value) (bytes : Nat) (ht : P.underlying t = some (.slice e)) (hi : P.info? e = some i) (hz : i.zero = some z) (hsize : i.size = sz) (hby : i.bytes = bytes) (hzs : z.cells.size = sz)
    (hs : a.eval s = .slice ao n c) (xv : Value) (m : Nat) (news : List Value) (hx : a.eval x = xv) (hsrc : Src P sz tx xv m news w) (h63 : n + m ≤ maxLen) (hbytes : (n + m) * bytes ≤ 140737488355328)
    (hK : ∀ ao' c' b' off' w', Oz sz B w' ao' (n + m) c' b' off' (cs ++ news) → Below B w w' → (∀ g, g < w.heap.size → (0 < c → g ≠ b) → w'.heap[g]? = w.heap[g]?) → (0 < c' → (0 < c ∧ b' = b) ∨ w.heap.size ≤ b') → K (a.put o.dst (.slice ao' (n + m) c')) w') :
    if Region.wanted o (yielded ops a.tmps) = true then Oper.wp P o a w K Q else E := by
  have hw : Region.wanted o (yielded ops a.tmps) = true := by simp [Region.wanted, hg]
  rw [if_pos hw]
  obtain ⟨ao', c', b', off', w', hrun, r1, r2, r3, r4⟩ := run_append_own (P := P) h hB t tx o.type e i z bytes ht hi hz hsize hby hzs xv m news hsrc h63 hbytes
  unfold Oper.wp
  simp [execOp, hop, resolve, invoke, builtin, hs, hx, hrun, Result.andThen]
  exact hK ao' c' b' off' w' r1 r2 r3 r4
theorem wpList_append_mine (w : World) {ops : Array Oper} {rest : List Oper} {o : Oper} {a : Act} {Q : Exit → Act → World → Prop} (hgd : o.guard = none) (s x : Operand) (t tx : TypeId)
    (ho : o.op = .call { callee := .builtin .append, args := #[s, x], argTypes := #[t, tx] })
    {sz B : Nat} {ao : Option Addr} {n c b off : Nat} {cs : List Value} (h : Oz sz B w ao n c b off cs) (hB : B ≤ w.heap.size)
    (e : TypeId) (i : TypeInfo) (z : Value) (bytes : Nat) (ht : P.underlying t = some (.slice e)) (hi : P.info? e = some i) (hz : i.zero = some z) (hsize : i.size = sz) (hby : i.bytes = bytes) (hzs : z.cells.size = sz)
    (hs : a.eval s = .slice ao n c) (xv : Value) (m : Nat) (news : List Value) (hx : a.eval x = xv) (hsrc : Src P sz tx xv m news w) (h63 : n + m ≤ maxLen) (hbytes : (n + m) * bytes ≤ 140737488355328)
    (hK : ∀ ao' c' b' off' w', Oz sz B w' ao' (n + m) c' b' off' (cs ++ news) → Below B w w' → (∀ g, g < w.heap.size → (0 < c → g ≠ b) → w'.heap[g]? = w.heap[g]?) → (0 < c' → (0 < c ∧ b' = b) ∨ w.heap.size ≤ b') → wpList P ops Q rest (a.put o.dst (.slice ao' (n + m) c')) w') : wpList P ops Q (o :: rest) a w := by
  refine wpList_plain hgd fun K hK' => ?_
  obtain ⟨ao', c', b', off', w', hrun, r1, r2, r3, r4⟩ := run_append_own (P := P) h hB t tx o.type e i z bytes ht hi hz hsize hby hzs xv m news hsrc h63 hbytes
  unfold Oper.wp
  simp [execOp, ho, resolve, invoke, builtin, hs, hx, hrun, Result.andThen]
  exact hK' _ _ (hK ao' c' b' off' w' r1 r2 r3 r4)
end

theorem hid {p : Prop} (h : p) : Hid p := h
/-- what an append answers -/
def appA (r : Result Value) : Option Addr := match r with
  | .ok (.slice a _ _) _ => a
  | _ => none
def appC (r : Result Value) : Nat := match r with
  | .ok (.slice _ _ c) _ => c
  | _ => 0
def appW (r : Result Value) (w : World) : World := match r with
  | .ok _ w' => w'
  | _ => w
def apA (P : Program) (ts : Array TypeId) (ty : TypeId) (w : World) (v x : Value) : Option Addr := appA ((Builtin.append_ ts ty #[v, x]).run P w)
def apC (P : Program) (ts : Array TypeId) (ty : TypeId) (w : World) (v x : Value) : Nat := appC ((Builtin.append_ ts ty #[v, x]).run P w)
def apW (P : Program) (ts : Array TypeId) (ty : TypeId) (w : World) (v x : Value) : World := appW ((Builtin.append_ ts ty #[v, x]).run P w) w
/-- the append goes well -/
def Fine (P : Program) (ts : Array TypeId) (ty : TypeId) (w : World) (v x : Value) (n : Nat) : Prop := ∃ a c w', (Builtin.append_ ts ty #[v, x]).run P w = .ok (.slice a n c) w'
def lenV : Value → Nat
  | .slice _ n _ => n
  | _ => 0
theorem lenV_slice (a : Option Addr) (n c : Nat) : lenV (.slice a n c) = n := rfl
theorem run_app (ρ : Operand → Value) (dst : Option Tmp) (s x : Operand) (ts : Array TypeId) (ty : TypeId) (pos : String) (after : Array Edge) (guard : Option (Nat × Bool)) (w : World) (h : Fine Tryd.prog ts ty w (ρ s) (ρ x) (lenV (ρ s) + lenV (ρ x))) :
    (execOp ρ { dst, op := .call { callee := .builtin .append, args := #[s, x], argTypes := ts }, type := ty, pos, after, guard }).run Tryd.prog w =
      .ok (.value (.slice (apA Tryd.prog ts ty w (ρ s) (ρ x)) (lenV (ρ s) + lenV (ρ x)) (apC Tryd.prog ts ty w (ρ s) (ρ x)))) (apW Tryd.prog ts ty w (ρ s) (ρ x)) := by
  obtain ⟨a, c', w', e⟩ := h
  have e1 : execOp ρ { dst, op := .call { callee := .builtin .append, args := #[s, x], argTypes := ts }, type := ty, pos, after, guard } = (do pure (.value (← Builtin.append_ ts ty #[ρ s, ρ x]))) := by
    have e2 := BigFrame.execOp_builtin ρ dst .append #[s, x] ts ty pos after guard
    rw [e2, BigFrame.builtin_append]
    simp
  unfold apA apC apW
  rw [e1, Sem.run_bind, e]
  rfl
/-- .. in memory of one's own -/
structure App (sz B : Nat) (ts : Array TypeId) (ty : TypeId) (w : World) (ao : Option Addr) (n c b : Nat) (cs : List Value) (x : Value) (m : Nat) (news : List Value) (b' off' : Nat) : Prop where
  fine : Fine Tryd.prog ts ty w (.slice ao n c) x (n + m)
  own : Oz sz B (apW Tryd.prog ts ty w (.slice ao n c) x) (apA Tryd.prog ts ty w (.slice ao n c) x) (n + m) (apC Tryd.prog ts ty w (.slice ao n c) x) b' off' (cs ++ news)
  below : Below B w (apW Tryd.prog ts ty w (.slice ao n c) x)
  other : ∀ g, g < w.heap.size → (0 < c → g ≠ b) → (apW Tryd.prog ts ty w (.slice ao n c) x).heap[g]? = w.heap[g]?
  place : 0 < apC Tryd.prog ts ty w (.slice ao n c) x → (0 < c ∧ b' = b) ∨ w.heap.size ≤ b'
theorem app_own {sz B : Nat} {w : World} {ao : Option Addr} {n c b off : Nat} {cs : List Value} (h : Oz sz B w ao n c b off cs) (hB : B ≤ w.heap.size)
    (t tx ty e : TypeId) (z : Value) (bytes : Nat) (ht : Tryd.prog.underlying t = some (.slice e)) (hinfo : (Tryd.prog.info? e).map (fun i => (i.zero, i.size, i.bytes)) = some (some z, sz, bytes)) (hzs : z.cells.size = sz)
    (x : Value) (m : Nat) (news : List Value) (hs : Src Tryd.prog sz tx x m news w) (h63 : n + m ≤ maxLen) (hbytes : (n + m) * bytes ≤ 140737488355328) :
    ∃ b' off', App sz B #[t, tx] ty w ao n c b cs x m news b' off' := by
  obtain ⟨i, hi, hz0, hz1, hz2⟩ := info_parts hinfo
  obtain ⟨ao', c', b', off', w', hrun, r1, r2, r3, r4⟩ := run_append_own (P := Tryd.prog) h hB t tx ty e i z bytes ht hi hz0 hz1 hz2 hzs x m news hs h63 hbytes
  refine ⟨b', off', ⟨⟨_, _, _, hrun⟩, ?_, ?_, ?_, ?_⟩⟩ <;> (try unfold apW) <;> (try unfold apA) <;> (try unfold apC) <;> rw [hrun]
  · exact r1
  · exact r2
  · exact r3
  · exact r4

/-- the strip's five fields -/
structure Five (w : World) (k : Nat) (y0 y1 : Int) (v : Value) (o : Bool) (x0 : Int) : Prop where
  c0 : w.cell? ⟨k, 0, none⟩ = some (.int .i64 y0)
  c1 : w.cell? ⟨k, 1, none⟩ = some (.int .i64 y1)
  c2 : w.cell? ⟨k, 2, none⟩ = some v
  c3 : w.cell? ⟨k, 3, none⟩ = some (.bool o)
  c4 : w.cell? ⟨k, 4, none⟩ = some (.int .i64 x0)
  fz : ∀ j, w.frozen? ⟨k, j, none⟩ = false
theorem Five.block {w w' : World} {k : Nat} {y0 y1 : Int} {v : Value} {o : Bool} {x0 : Int} (h : Five w k y0 y1 v o x0) (e : w'.heap[k]? = w.heap[k]?) : Five w' k y0 y1 v o x0 := by
  have hc : ∀ j, w'.cell? ⟨k, j, none⟩ = w.cell? ⟨k, j, none⟩ := fun j => World.cell?_of_block (a := ⟨k, j, none⟩) e
  exact ⟨by rw [hc]; exact h.c0, by rw [hc]; exact h.c1, by rw [hc]; exact h.c2, by rw [hc]; exact h.c3, by rw [hc]; exact h.c4, fun j => by rw [World.frozen?_of_block (a := ⟨k, j, none⟩) e]; exact h.fz j⟩
theorem Five.lt {w : World} {k : Nat} {y0 y1 : Int} {v : Value} {o : Bool} {x0 : Int} (h : Five w k y0 y1 v o x0) : k < w.heap.size := World.block_lt_of_cell? w ⟨k, 0, none⟩ h.c0

/-- the strip as it stands -/
structure Sp (B : Nat) (w : World) (k : Nat) (y0 y1 : Int) (s : St) (ao : Option Addr) (n c b off : Nat) : Prop where
  five : Five w k y0 y1 (.slice ao n c) s.opn s.x0
  own : Ow B w ao n c b off s.made
  low : B ≤ k
  ne : 0 < c → b ≠ k
def SpE (B : Nat) (w : World) (k : Nat) (y0 y1 : Int) (s : St) : Prop := ∃ ao n c b off, Sp B w k y0 y1 s ao n c b off

attribute [local go_sem ↓] run_app
attribute [local go_sem] lenV_slice
theorem five_set {w : World} {k : Nat} {y0 y1 : Int} {v : Value} {o : Bool} {x0 : Int} (h : Five w k y0 y1 v o x0) (v' : Value) (o' : Bool) (x' : Int) :
    Five (((w.setCell ⟨k, 2, none⟩ v').setCell ⟨k, 3, none⟩ (.bool o')).setCell ⟨k, 4, none⟩ (.int .i64 x')) k y0 y1 v' o' x' := by
  obtain ⟨c0, c1, c2, c3, c4, fz⟩ := h
  have g3 : (w.setCell ⟨k, 2, none⟩ v').cell? ⟨k, 3, none⟩ = some (.bool o) := by rw [World.cell?_setCell_other _ _ _ _ (by simp)]; exact c3
  have g4 : ((w.setCell ⟨k, 2, none⟩ v').setCell ⟨k, 3, none⟩ (.bool o')).cell? ⟨k, 4, none⟩ = some (.int .i64 x0) := by rw [World.cell?_setCell_other _ _ _ _ (by simp), World.cell?_setCell_other _ _ _ _ (by simp)]; exact c4
  refine ⟨?_, ?_, ?_, ?_, World.cell?_setCell_same _ _ _ g4, fun j => ?_⟩
  · rw [World.cell?_setCell_other _ _ _ _ (by simp), World.cell?_setCell_other _ _ _ _ (by simp), World.cell?_setCell_other _ _ _ _ (by simp)]; exact c0
  · rw [World.cell?_setCell_other _ _ _ _ (by simp), World.cell?_setCell_other _ _ _ _ (by simp), World.cell?_setCell_other _ _ _ _ (by simp)]; exact c1
  · rw [World.cell?_setCell_other _ _ _ _ (by simp), World.cell?_setCell_other _ _ _ _ (by simp)]; exact World.cell?_setCell_same _ _ _ c2
  · rw [World.cell?_setCell_other _ _ _ _ (by simp)]; exact World.cell?_setCell_same _ _ _ g3
  · simp [World.frozen?_setCell, fz j]
theorem five_set2 {w : World} {k : Nat} {y0 y1 : Int} {v : Value} {o : Bool} {x0 : Int} (h : Five w k y0 y1 v o x0) (o' : Bool) (x' : Int) :
    Five ((w.setCell ⟨k, 3, none⟩ (.bool o')).setCell ⟨k, 4, none⟩ (.int .i64 x')) k y0 y1 v o' x' := by
  obtain ⟨c0, c1, c2, c3, c4, fz⟩ := h
  have g4 : (w.setCell ⟨k, 3, none⟩ (.bool o')).cell? ⟨k, 4, none⟩ = some (.int .i64 x0) := by rw [World.cell?_setCell_other _ _ _ _ (by simp)]; exact c4
  refine ⟨?_, ?_, ?_, ?_, World.cell?_setCell_same _ _ _ g4, fun j => ?_⟩
  · rw [World.cell?_setCell_other _ _ _ _ (by simp), World.cell?_setCell_other _ _ _ _ (by simp)]; exact c0
  · rw [World.cell?_setCell_other _ _ _ _ (by simp), World.cell?_setCell_other _ _ _ _ (by simp)]; exact c1
  · rw [World.cell?_setCell_other _ _ _ _ (by simp), World.cell?_setCell_other _ _ _ _ (by simp)]; exact c2
  · rw [World.cell?_setCell_other _ _ _ _ (by simp)]; exact World.cell?_setCell_same _ _ _ c3
  · simp [World.frozen?_setCell, fz j]

theorem srcR (w : World) (g : Nat) (r : R) (h : w.cell? ⟨g, 0, none⟩ = some (.int .i64 r.x0) ∧ w.cell? ⟨g, 1, none⟩ = some (.int .i64 r.y0) ∧ w.cell? ⟨g, 2, none⟩ = some (.int .i64 r.x1) ∧ w.cell? ⟨g, 3, none⟩ = some (.int .i64 r.y1)) :
    Src Tryd.prog 4 26 (.slice (some ⟨g, 0, none⟩) 1 1) 1 (cells4 r) w := by
  obtain ⟨h0, h1, h2, h3⟩ := h
  refine Src.ofSlice w Tryd.underlying26 ⟨g, 0, none⟩ 1 1 (cells4 r) rfl (fun j u hu => ?_) (fun u hu => ?_)
  · rw [Addr.add_lit, Nat.zero_add]
    match j, hu with
    | 0, hu => rw [h0, ← hu]; rfl
    | 1, hu => rw [h1, ← hu]; rfl
    | 2, hu => rw [h2, ← hu]; rfl
    | 3, hu => rw [h3, ← hu]; rfl
    | j + 4, hu => simp [cells4] at hu
  · simp only [cells4, List.mem_cons, List.not_mem_nil, or_false] at hu
    rcases hu with rfl | rfl | rfl | rfl <;> rfl

set_option maxRecDepth 100000 in
set_option maxHeartbeats 4000000 in
theorem pass_true (B : Nat) (w : World) (k : Nat) (y0 y1 x : Int) (made : List R) (x0 : Int) (h : SpE B w k y0 y1 ⟨made, true, x0⟩) (hlen : made.length < 4000000000000) :
    Calls Tryd.prog 90 #[.pointer (some ⟨k, 0, none⟩), .int .i64 x, .bool false] w fun e w' => e = .returned (.tuple #[]) ∧ SpE B w' k y0 y1 ⟨made ++ [⟨x0, y0, x, y1⟩], false, x⟩ ∧ Below B w w' := by
  obtain ⟨ao, n, c, b, off, h⟩ := h
  have hn : made.length = n := vw_len h.own.v
  rw [hn] at hlen
  have hW : Below w.heap.size w (w.alloc (.cells #[.int .i64 x0, .int .i64 y0, .int .i64 x, .int .i64 y1] 34)).drew := ((Below.refl _ _).alloc (Nat.le_refl _) _).drew
  have hB : B ≤ w.heap.size := by have := h.low; have := h.five.lt; omega
  obtain ⟨b', off', hA⟩ := app_own (h.own.below hW) (by simp; omega) 26 26 26 34 _ 32 Tryd.underlying26 info34 rfl (.slice (some ⟨w.heap.size, 0, none⟩) 1 1) 1 (cells4 ⟨x0, y0, x, y1⟩) (srcR _ _ _ (by simp)) (by simp only [maxLen]; omega) (by omega)
  have hF := hA.fine
  have h5 := (h.five.block (hW.block _ h.five.lt)).block (hA.other k (by have := h.five.lt; simp; omega) (fun hc => (h.ne hc).symm))
  obtain ⟨⟨c0, c1, c2, c3, c4, fz⟩, -, -, -⟩ := id h
  obtain ⟨d0, d1, d2, d3, d4, gz⟩ := id h5
  have HH : Hid (Sp B w k y0 y1 ⟨made, true, x0⟩ ao n c b off) := h
  have HA : Hid _ := hA
  have H5 : Hid _ := h5
  dsimp only at c0 c1 c2 c3 c4 d0 d1 d2 d3 d4
  have hk : k < w.heap.size := h.five.lt
  have hk' : ¬ k = w.heap.size := by omega
  clear hn h hA hW h5
  go_enter Tryd.func90, Tryd.ntmps90
  go_wp2
  go_region
  go_wp2
  go_end0
  have hA := HA.out
  have h5 := H5.out
  have h := HH.out
  have hne : 0 < apC Tryd.prog #[26, 26] 26 (w.alloc (.cells #[.int .i64 x0, .int .i64 y0, .int .i64 x, .int .i64 y1] 34)).drew (.slice ao n c) (.slice (some ⟨w.heap.size, 0, none⟩) 1 1) → b' ≠ k := fun hc => by
    rcases hA.place hc with ⟨hc', rfl⟩ | hge
    · exact h.ne hc'
    · simp at hge; omega
  refine ⟨rfl, ⟨_, _, _, b', off', five_set h5 _ _ _, ?_, h.low, hne⟩, ?_⟩
  · have e := hA.own.block (w := ((((apW Tryd.prog #[26, 26] 26 (w.alloc (.cells #[.int .i64 x0, .int .i64 y0, .int .i64 x, .int .i64 y1] 34)).drew (.slice ao n c) (.slice (some ⟨w.heap.size, 0, none⟩) 1 1)).setCell ⟨k, 2, none⟩ (.slice (apA Tryd.prog #[26, 26] 26 (w.alloc (.cells #[.int .i64 x0, .int .i64 y0, .int .i64 x, .int .i64 y1] 34)).drew (.slice ao n c) (.slice (some ⟨w.heap.size, 0, none⟩) 1 1)) (n + 1) (apC Tryd.prog #[26, 26] 26 (w.alloc (.cells #[.int .i64 x0, .int .i64 y0, .int .i64 x, .int .i64 y1] 34)).drew (.slice ao n c) (.slice (some ⟨w.heap.size, 0, none⟩) 1 1)))).setCell ⟨k, 3, none⟩ (.bool false)).setCell ⟨k, 4, none⟩ (.int .i64 x))) (by simp [World.setCell]) (fun hc => by
      rw [Below.heap_setCell _ _ _ _ (by exact hne hc), Below.heap_setCell _ _ _ _ (by exact hne hc), Below.heap_setCell _ _ _ _ (by exact hne hc)])
    rw [show flat made ++ cells4 ⟨x0, y0, x, y1⟩ = flat (made ++ [⟨x0, y0, x, y1⟩]) by rw [flat_append]; rfl] at e
    exact e
  · refine (((Below.trans ?_ hA.below).setCell (p := ⟨k, 2, none⟩) h.low _).setCell (p := ⟨k, 3, none⟩) h.low _).setCell (p := ⟨k, 4, none⟩) h.low _
    exact ((Below.refl _ _).alloc hB _).drew

theorem sp_block {B : Nat} {w : World} {k : Nat} {y0 y1 : Int} {s : St} {ao : Option Addr} {n c b off : Nat} (h : Sp B w k y0 y1 s ao n c b off) (o' : Bool) (x' : Int) :
    Sp B ((w.setCell ⟨k, 3, none⟩ (.bool o')).setCell ⟨k, 4, none⟩ (.int .i64 x')) k y0 y1 ⟨s.made, o', x'⟩ ao n c b off :=
  ⟨five_set2 h.five o' x', h.own.block (by simp [World.setCell]) (fun hc => by rw [Below.heap_setCell _ _ _ _ (by exact h.ne hc), Below.heap_setCell _ _ _ _ (by exact h.ne hc)]), h.low, h.ne⟩

set_option maxRecDepth 100000 in
theorem pass_any (B : Nat) (w : World) (k : Nat) (y0 y1 x : Int) (t : Bool) (s : St) (h : SpE B w k y0 y1 s) (hlen : s.made.length < 4000000000000) :
    Calls Tryd.prog 90 #[.pointer (some ⟨k, 0, none⟩), .int .i64 x, .bool t] w fun e w' => e = .returned (.tuple #[]) ∧ SpE B w' k y0 y1 (passS y0 y1 x t s) ∧ Below B w w' := by
  obtain ⟨made, opn, x0⟩ := s
  by_cases ht : t = opn
  · have E : Hid (passS y0 y1 x t ⟨made, opn, x0⟩ = ⟨made, opn, x0⟩) := by show passS _ _ _ _ _ = _; unfold passS; rw [if_pos ht]
    subst ht
    have H : Hid (SpE B w k y0 y1 ⟨made, t, x0⟩) := h
    obtain ⟨ao, n, c, b, off, ⟨c0, c1, c2, c3, c4, fz⟩, -, -, -⟩ := h
    dsimp only at c0 c1 c2 c3 c4
    cases t with
    | true =>
      go_enter Tryd.func90, Tryd.ntmps90
      go_wp2
      refine bodyPost_ret (v := .tuple #[]) (by simp [results, Tryd.results90, go_sem]) rfl ?_
      rw [E.out]
      exact ⟨rfl, H.out, Below.refl _ _⟩
    | false =>
      go_enter Tryd.func90, Tryd.ntmps90
      go_wp2
      refine bodyPost_ret (v := .tuple #[]) (by simp [results, Tryd.results90, go_sem]) rfl ?_
      rw [E.out]
      exact ⟨rfl, H.out, Below.refl _ _⟩
  · cases opn with
    | false =>
      obtain rfl : t = true := by simpa using ht
      have H : Hid (SpE B w k y0 y1 ⟨made, false, x0⟩) := h
      obtain ⟨ao, n, c, b, off, h⟩ := h
      have hS : Hid (Sp B w k y0 y1 ⟨made, false, x0⟩ ao n c b off) := h
      obtain ⟨⟨c0, c1, c2, c3, c4, fz⟩, -, -, -⟩ := h
      dsimp only at c0 c1 c2 c3 c4
      have E : Hid (passS y0 y1 x true ⟨made, false, x0⟩ = ⟨made, true, x⟩) := rfl
      go_enter Tryd.func90, Tryd.ntmps90
      go_wp2
      go_end0
      rw [E.out]
      exact ⟨rfl, ⟨_, _, _, _, _, sp_block hS.out true x⟩, ((Below.refl _ _).setCell (p := ⟨k, 3, none⟩) hS.out.low _).setCell (p := ⟨k, 4, none⟩) hS.out.low _⟩
    | true =>
      obtain rfl : t = false := by simpa using ht
      exact pass_true B w k y0 y1 x made x0 h hlen
end Go.Proofs.YteiihgoobhlkbaaDoor.Rg
/- A strip's rectangles behind the band above: the contract. -/
namespace Go.Proofs.YteiihgoobhlkbaaDoor.Rg
open Num Go.RowKit
set_option linter.unusedVariables false

/-- a slice and a number are answered -/
def RetT (B : Nat) (w : World) (e : Ending) (l : List R) (k : Nat) : Prop := ∃ ao n c b off, e = .returned (.tuple #[.slice ao n c, .int .i64 k]) ∧ Ow B w ao n c b off l

theorem oz_set {sz B : Nat} {w : World} {ao : Option Addr} {n c b off : Nat} {cs : List Value} (h : Oz sz B w ao n c b off cs) {p : Nat} (hp : p < cs.length) (v : Value) : Oz sz B (w.setCell ⟨b, off + p, none⟩ v) ao n c b off (cs.set p v) := by
  obtain ⟨⟨h1, h2, h3, h4, h5⟩, h6, h7⟩ := h
  refine ⟨⟨by simpa using h1, h2, h3, h4, fun j u hu => ?_⟩, fun hc => ⟨(h6 hc).1, by have := (h6 hc).2; simpa [World.setCell] using this⟩, fun j hj => ?_⟩
  · rw [List.getElem?_set] at hu
    split at hu
    · rename_i e
      subst e
      first | rw [if_pos hp] at hu | skip
      rw [World.cell?_setCell_same _ _ _ (h5 p _ (List.getElem?_eq_getElem hp)), hu]
    · rename_i e
      rw [World.cell?_setCell_other _ _ _ _ (by first | (simp; omega) | (simp; done))]
      exact h5 j u hu
  · rw [World.frozen?_setCell]
    refine ⟨?_, (h7 j hj).2⟩
    by_cases e : j = p
    · subst e
      rw [World.cell?_setCell_same _ _ _ (h5 j _ (List.getElem?_eq_getElem hp))]; rfl
    · rw [World.cell?_setCell_other _ _ _ _ (by first | (simp; omega) | (simp; done))]
      exact (h7 j hj).1

theorem flat_set3 : ∀ {l : List R} {j : Nat} {r : R} (y : Int), l[j]? = some r → flat (l.set j ⟨r.x0, r.y0, r.x1, y⟩) = (flat l).set (j * 4 + 3) (.int .i64 y)
  | [], j, r, y, h => by simp at h
  | a :: l, 0, r, y, h => by
    simp at h
    subst h
    simp [flat_cons]
  | a :: l, j + 1, r, y, h => by
    have h' : l[j]? = some r := by simpa using h
    rw [List.set_cons_succ, flat_cons, flat_cons, flat_set3 y h', show (j + 1) * 4 + 3 = (j * 4 + 3) + 1 + 1 + 1 + 1 by omega]
    simp
theorem flat_set2 : ∀ {l : List R} {j : Nat} {r : R} (x : Int), l[j]? = some r → flat (l.set j ⟨r.x0, r.y0, x, r.y1⟩) = (flat l).set (j * 4 + 2) (.int .i64 x)
  | [], j, r, y, h => by simp at h
  | a :: l, 0, r, y, h => by
    simp at h
    subst h
    simp [flat_cons]
  | a :: l, j + 1, r, y, h => by
    have h' : l[j]? = some r := by simpa using h
    rw [List.set_cons_succ, flat_cons, flat_cons, flat_set2 y h', show (j + 1) * 4 + 2 = (j * 4 + 2) + 1 + 1 + 1 + 1 by omega]
    simp
theorem ow_set3 {B : Nat} {w : World} {ao : Option Addr} {n c b off : Nat} {l : List R} (h : Ow B w ao n c b off l) {j : Nat} {r : R} (hj : l[j]? = some r) (y : Int) : Ow B (w.setCell ⟨b, off + j * 4 + 3, none⟩ (.int .i64 y)) ao n c b off (l.set j ⟨r.x0, r.y0, r.x1, y⟩) := by
  have hlt : j < l.length := (List.getElem?_eq_some_iff.1 hj).1
  have := oz_set h (p := j * 4 + 3) (by rw [flat_len]; omega) (.int .i64 y)
  rw [← flat_set3 y hj, ← Nat.add_assoc] at this
  exact this
theorem ow_set2 {B : Nat} {w : World} {ao : Option Addr} {n c b off : Nat} {l : List R} (h : Ow B w ao n c b off l) {j : Nat} {r : R} (hj : l[j]? = some r) (x : Int) : Ow B (w.setCell ⟨b, off + j * 4 + 2, none⟩ (.int .i64 x)) ao n c b off (l.set j ⟨r.x0, r.y0, x, r.y1⟩) := by
  have hlt : j < l.length := (List.getElem?_eq_some_iff.1 hj).1
  have := oz_set h (p := j * 4 + 2) (by rw [flat_len]; omega) (.int .i64 x)
  rw [← flat_set2 x hj, ← Nat.add_assoc] at this
  exact this
theorem ow_at {B : Nat} {w : World} {ao : Option Addr} {n c b off : Nat} {l : List R} (h : Ow B w ao n c b off l) {j : Nat} {r : R} (hj : l[j]? = some r) (o : Nat) (ho : o < 4) : w.frozen? ⟨b, off + j * 4 + o, none⟩ = false ∧ B ≤ b := by
  have hlt : j < l.length := (List.getElem?_eq_some_iff.1 hj).1
  have hl := vw_len h.v
  have hle := h.v.le
  refine ⟨?_, (h.new (by omega)).1⟩
  have := (h.room (j * 4 + o) (by omega)).2
  rwa [← Nat.add_assoc] at this
theorem ow_take {B : Nat} {w : World} {ao : Option Addr} {n c b off : Nat} {l : List R} (h : Ow B w ao n c b off l) {k : Nat} (hk : k ≤ n) : Ow B w ao k c b off (l.take k) := ⟨vw_take h.v hk, h.new, h.room⟩
theorem oz_drewN {sz B : Nat} {w : World} {ao : Option Addr} {n c b off : Nat} {cs : List Value} (h : Oz sz B w ao n c b off cs) (k : Nat) : Oz sz B (w.drewN k) ao n c b off cs := h.below (below_drewN (Below.refl _ _) k)

/-- the band above, so many of its rectangles made longer -/
def upd (l : List R) (last at' : Nat) : Nat → List R
  | 0 => l
  | i + 1 => match (upd l last at' i)[last + i]?, l[at' + i]? with
    | some r, some s => (upd l last at' i).set (last + i) ⟨r.x0, r.y0, r.x1, s.y1⟩
    | _, _ => upd l last at' i
theorem upd_len (l : List R) (last at' : Nat) : ∀ i, (upd l last at' i).length = l.length
  | 0 => rfl
  | i + 1 => by
    unfold upd
    split
    · rw [List.length_set]; exact upd_len l last at' i
    · exact upd_len l last at' i
theorem upd_far (l : List R) (last at' : Nat) : ∀ i j, (j < last ∨ last + i ≤ j) → (upd l last at' i)[j]? = l[j]?
  | 0, j, h => rfl
  | i + 1, j, h => by
    have ih := upd_far l last at' i j (by omega)
    unfold upd
    split
    · rw [List.getElem?_set_ne (by omega)]; exact ih
    · exact ih
theorem upd_in (l : List R) (last at' : Nat) : ∀ i j r s, j < i → l[last + j]? = some r → l[at' + j]? = some s → (upd l last at' i)[last + j]? = some ⟨r.x0, r.y0, r.x1, s.y1⟩
  | 0, j, r, s, h, _, _ => absurd h (Nat.not_lt_zero _)
  | i + 1, j, r, s, h, hr, hs => by
    unfold upd
    by_cases e : j = i
    · subst e
      have h1 : (upd l last at' j)[last + j]? = some r := by rw [upd_far l last at' j _ (.inr (Nat.le_refl _))]; exact hr
      rw [h1, hs]
      dsimp only
      rw [List.getElem?_set_self (by rw [upd_len]; exact (List.getElem?_eq_some_iff.1 hr).1)]
    · have ih := upd_in l last at' i j r s (by omega) hr hs
      split
      · rw [List.getElem?_set_ne (by omega)]; exact ih
      · exact ih
theorem upd_all (l : List R) {last at' : Nat} (h1 : last ≤ at') (h2 : at' ≤ l.length) (h3 : at' - last = l.length - at') :
    (upd l last at' (at' - last)).take at' = l.take last ++ setY1 ((l.take at').drop last) (l.drop at') := by
  apply List.ext_getElem?
  intro j
  have hz : (setY1 ((l.take at').drop last) (l.drop at')).length = at' - last := by unfold setY1; rw [List.length_zipWith, List.length_drop, List.length_take, List.length_drop]; omega
  by_cases hj : j < at'
  · rw [List.getElem?_take, if_pos hj]
    by_cases hl : j < last
    · rw [upd_far l last at' _ _ (.inl hl), List.getElem?_append_left (by rw [List.length_take]; omega), List.getElem?_take, if_pos hl]
    · obtain ⟨k, rfl⟩ : ∃ k, j = last + k := ⟨j - last, by omega⟩
      obtain ⟨r, hr⟩ : ∃ r, l[last + k]? = some r := ⟨_, List.getElem?_eq_getElem (by omega)⟩
      obtain ⟨s, hs⟩ : ∃ s, l[at' + k]? = some s := ⟨_, List.getElem?_eq_getElem (by omega)⟩
      rw [upd_in l last at' _ k r s (by omega) hr hs, List.getElem?_append_right (by rw [List.length_take]; omega), List.length_take, show last + k - min last l.length = k by omega]
      unfold setY1
      rw [List.getElem?_zipWith, List.getElem?_drop, List.getElem?_drop, List.getElem?_take, if_pos (by omega), hr, hs]
  · rw [List.getElem?_eq_none (by rw [List.length_take]; omega), List.getElem?_eq_none (by rw [List.length_append, hz, List.length_take]; omega)]

theorem seam_len_eq {a b : List R} (h : seamB a b = true) : a.length = b.length := by
  by_cases e : a.length = b.length
  · exact e
  · rw [seam_len e] at h; cases h

set_option maxRecDepth 100000 in
set_option maxHeartbeats 2000000 in
theorem settle_any (W : World) (ao : Option Addr) (n c b off : Nat) (l : List R) (last at' : Nat) (w : World) (hW : Below W.heap.size W w) (h : Ow W.heap.size w ao n c b off l) (h1 : last ≤ at') (h2 : at' ≤ n) :
    Calls Tryd.prog 82 #[.slice ao n c, .int .i64 last, .int .i64 at'] w fun e w' => RetT W.heap.size w' e (settleL l last at').1 (settleL l last at').2 ∧ Below W.heap.size W w' := by
  have hl := vw_len h.v
  have hn := vw_small h.v
  have hle := h.v.le
  have z1 : (last : Int) ≤ (at' : Int) := by omega
  have z2 : (at' : Int) ≤ (n : Int) := by omega
  have z3 : (at' : Int) ≤ (c : Int) := by omega
  by_cases he : at' = n
  · have E : settleL l last at' = (l, last) := by unfold settleL; rw [if_pos (List.drop_eq_nil_of_le (by omega))]
    rw [E]
    subst he
    have H : Hid (Ow W.heap.size w ao at' c b off l ∧ Below W.heap.size W w) := ⟨h, hW⟩
    clear h hl hW E
    by_cases hcn : c = at'
    · subst hcn
      by_cases hln : last = c
      · subst hln
        go_enter Tryd.func82, Tryd.ntmps82
        go_wp2
        go_quiet (fail)
        go_wp2
        all_goals
          go_ret2
          exact ⟨⟨_, _, _, _, _, rfl, oz_drewN H.out.1 _⟩, below_drewN H.out.2 _⟩
      · have hne : ¬ c = last := fun e => hln e.symm
        go_enter Tryd.func82, Tryd.ntmps82
        go_wp2
        go_quiet (fail)
        go_wp2
        all_goals
          go_ret2
          exact ⟨⟨_, _, _, _, _, rfl, oz_drewN H.out.1 _⟩, below_drewN H.out.2 _⟩
    · have hne : ¬ c = last := by omega
      go_enter Tryd.func82, Tryd.ntmps82
      go_wp2
      go_quiet (fail)
      go_wp2
      all_goals
        go_ret2
        exact ⟨⟨_, _, _, _, _, rfl, oz_drewN H.out.1 _⟩, below_drewN H.out.2 _⟩
  · have hc1 : ¬ c = last := by omega
    have hc2 : ¬ c = at' := by omega
    obtain rfl := h.v.addr (by omega)
    have H : Hid (Ow W.heap.size w (some ⟨b, off, none⟩) n c b off l ∧ l.length = n ∧ Below W.heap.size W w) := ⟨h, hl, hW⟩
    have hA : Vw w (some ⟨b, off + last * 4, none⟩) (at' - last) (c - last) b (off + last * 4) ((l.take at').drop last) := vw_dropS (vw_take h.v h2) h1
    have hD : Vw w (some ⟨b, off + at' * 4, none⟩) (n - at') (c - at') b (off + at' * 4) (l.drop at') := vw_dropS h.v h2
    have HV : Hid (Vw w (some ⟨b, off + last * 4, none⟩) (at' - last) (c - last) b (off + last * 4) ((l.take at').drop last) ∧ Vw w (some ⟨b, off + at' * 4, none⟩) (n - at') (c - at') b (off + at' * 4) (l.drop at')) := ⟨hA, hD⟩
    have hne : ¬ l.drop at' = [] := fun e => by have := congrArg List.length e; simp at this; omega
    have d0 : ¬ (((n - at' : Nat) : Int) = 0) := by omega
    have d0' : ¬ (n - at' = 0) := by omega
    clear h hl hW hA hD
    have HL : Hid (l.length = n) := H.out.2.1
    rcases hsm : seamB ((l.take at').drop last) (l.drop at') with _ | _
    · have E : settleL l last at' = (l, at') := by unfold settleL; rw [if_neg hne, if_neg (by simp [hsm])]
      rw [E]
      have HE : Hid (seamB ((l.take at').drop last) (l.drop at') = false) := hsm
      clear hne E hsm
      go_enter Tryd.func82, Tryd.ntmps82
      go_wp2
      go_quiet (fail)
      go_wp2_with (go_at_call 92; with_reducible refine Calls.mono (seamless_any _ _ _ _ _ _ _ _ _ _ _ _ _ (HV.out.1.below (below_drewN (Below.refl _ _) _)) (HV.out.2.below (below_drewN (Below.refl _ _) _))) ?_; rintro e w1 ⟨rfl, hb⟩; rw [HE.out])
      all_goals
        go_ret2
        exact ⟨⟨_, _, _, _, _, rfl, (oz_drewN H.out.1 _).below hb⟩, (below_drewN H.out.2.2 _).trans (hb.mono (below_drewN H.out.2.2 _).size)⟩
    · have E : settleL l last at' = ((upd l last at' (at' - last)).take at', last) := by
        unfold settleL
        rw [if_neg hne, if_pos hsm, upd_all l h1 (by rw [HL.out]; exact h2) (by have h8 := HL.out; have := seam_len_eq hsm; rw [List.length_drop, List.length_take, List.length_drop] at this; omega)]
      rw [E]
      have HE : Hid (seamB ((l.take at').drop last) (l.drop at') = true ∧ at' - last = n - at') := ⟨hsm, by have := seam_len_eq hsm; rw [List.length_drop, List.length_take, List.length_drop, HL.out] at this; omega⟩
      clear hne E hsm
      go_enter Tryd.func82, Tryd.ntmps82
      go_wp2
      go_quiet (fail)
      go_wp2_with (go_at_call 92; with_reducible refine Calls.mono (seamless_any _ _ _ _ _ _ _ _ _ _ _ _ _ (HV.out.1.below (below_drewN (Below.refl _ _) _)) (HV.out.2.below (below_drewN (Below.refl _ _) _))) ?_; rintro e w1 ⟨rfl, hb⟩; rw [HE.out.1]; have H1 : Hid (Ow W.heap.size w1 (some ⟨b, off, none⟩) n c b off l ∧ Below W.heap.size W w1) := hid ⟨(oz_drewN H.out.1 _).below hb, (below_drewN H.out.2.2 _).trans (hb.mono (below_drewN H.out.2.2 _).size)⟩; clear hb)
      go_loopg [31] (at' - last) (fun g vi wr => ∃ i : Nat, vi = .int .i64 i ∧ i ≤ at' - last ∧ g = at' - last - i ∧ Ow W.heap.size wr (some ⟨b, off, none⟩) n c b off (upd l last at' i) ∧ Below W.heap.size W wr)
      case atStart => exact ⟨0, rfl, Nat.zero_le _, rfl, H1.out.1, H1.out.2⟩
      case round =>
        obtain ⟨i, rfl, hi, rfl, hO, hB⟩ := hrel
        clear H1
        by_cases hi2 : i < at' - last
        · have heq := HE.out.2
          have hlen := HL.out
          obtain ⟨r, hr⟩ : ∃ r, (upd l last at' i)[last + i]? = some r := ⟨_, List.getElem?_eq_getElem (by rw [upd_len]; omega)⟩
          obtain ⟨s, hs⟩ : ∃ s, l[at' + i]? = some s := ⟨_, List.getElem?_eq_getElem (by omega)⟩
          have hs' : (upd l last at' i)[at' + i]? = some s := by rw [upd_far l last at' i _ (.inr (by omega))]; exact hs
          obtain ⟨-, -, -, -, g3⟩ := vw_at hO.v hr
          obtain ⟨-, -, -, -, k3⟩ := vw_at hO.v hs'
          have fz := (ow_at hO hr 3 (by omega)).1
          have hbB := (ow_at hO hr 3 (by omega)).2
          rw [show off + (last + i) * 4 + 3 = off + last * 4 + i * 4 + 3 by omega] at g3 fz
          rw [show off + (at' + i) * 4 + 3 = off + at' * 4 + i * 4 + 3 by omega] at k3
          have HS := hid (show Ow W.heap.size (wr.setCell ⟨b, off + last * 4 + i * 4 + 3, none⟩ (.int .i64 s.y1)) (some ⟨b, off, none⟩) n c b off (upd l last at' (i + 1)) by
            have := ow_set3 hO hr s.y1
            rw [show off + (last + i) * 4 + 3 = off + last * 4 + i * 4 + 3 by omega] at this
            show Ow _ _ _ _ _ _ _ (match (upd l last at' i)[last + i]?, l[at' + i]? with
              | some r, some s => (upd l last at' i).set (last + i) ⟨r.x0, r.y0, r.x1, s.y1⟩
              | _, _ => upd l last at' i)
            rw [hr, hs]
            exact this)
          have HB := hid (hB.setCell (p := ⟨b, off + last * 4 + i * 4 + 3, none⟩) hbB (.int .i64 s.y1))
          have e1 : (i : Int) < ((at' - last : Nat) : Int) := by omega
          have e2 : (i : Int) < ((n - at' : Nat) : Int) := by omega
          clear hO hB hr hs hs' heq hlen hbB
          go_wp2
          go_roundg (at' - last - (i + 1))
          case measure => omega
          case rel => exact ⟨i + 1, by simp, by omega, rfl, HS.out, HB.out⟩
        · obtain rfl : i = at' - last := by omega
          have HO := hid hO
          have HB := hid hB
          clear hO hB
          go_wp2
          go_ret2
          exact ⟨⟨_, _, _, _, _, rfl, ow_take HO.out h2⟩, HB.out⟩
end Go.Proofs.YteiihgoobhlkbaaDoor.Rg
/- Whether two regions have the same rectangles: the contract. -/
namespace Go.Proofs.YteiihgoobhlkbaaDoor.Rg
open Num Go.RowKit
set_option linter.unusedVariables false

theorem same_step {a b : List R} {k : Nat} {r s : R} (hr : a[k]? = some r) (hs : b[k]? = some s) : decide (a.drop k = b.drop k) = (decide (r = s) && decide (a.drop (k + 1) = b.drop (k + 1))) := by
  obtain ⟨h1, rfl⟩ := List.getElem?_eq_some_iff.1 hr
  obtain ⟨h2, rfl⟩ := List.getElem?_eq_some_iff.1 hs
  rw [Bool.eq_iff_iff]
  simp only [Bool.and_eq_true, decide_eq_true_eq]
  rw [List.drop_eq_getElem_cons h1, List.drop_eq_getElem_cons h2]
  simp only [List.cons.injEq]

/-- four numbers each -/
def eq4 (a b c d p q r s : Int) : Bool := decide ((⟨a, b, c, d⟩ : R) = ⟨p, q, r, s⟩)
theorem eqR (a b c d p q r s : Int) (w : World) : (Op.equalIn 10000 34 (.agg #[.int .i64 a, .int .i64 b, .int .i64 c, .int .i64 d]) (.agg #[.int .i64 p, .int .i64 q, .int .i64 r, .int .i64 s])).run Tryd.prog w = .ok (eq4 a b c d p q r s) w := by
  rw [show (10000 : Nat) = 9999 + 1 from rfl]
  go_simp
  by_cases h1 : a = p
  · by_cases h2 : b = q
    · by_cases h3 : c = r
      · by_cases h4 : d = s
        · subst h1; subst h2; subst h3; subst h4; simp [eq4]
        · simp [eq4, h1, h2, h3, h4]
      · simp [eq4, h1, h2, h3]
    · simp [eq4, h1, h2]
  · simp [eq4, h1]
theorem eq4_same (a b c d : Int) : eq4 a b c d a b c d = true := by simp [eq4]
attribute [local go_sem ↓] eqR
attribute [local go_sem] eq4_same

set_option maxRecDepth 100000 in
set_option maxHeartbeats 1000000 in
theorem same_any (ao : Option Addr) (n c b off : Nat) (l : List R) (ao' : Option Addr) (n' c' b' off' : Nat) (l' : List R) (w : World) (h : Vw w ao n c b off l) (h' : Vw w ao' n' c' b' off' l') :
    Calls Tryd.prog 10 #[.slice ao n c, .slice ao' n' c'] w fun e w' => e = .returned (.bool (decide (l = l'))) ∧ Below w.heap.size w w' := by
  have hl := vw_len h
  have hn := vw_small h
  have hl' := vw_len h'
  have hn' := vw_small h'
  by_cases he : n = n'
  · subst he
    have H : Hid (Vw w ao n c b off l ∧ Vw w ao' n c' b' off' l' ∧ l.length = n ∧ l'.length = n) := ⟨h, h', hl, hl'⟩
    clear h h' hl hl'
    go_enter Tryd.func10, Tryd.ntmps10
    go_wp2
    go_loopg [5] n (fun g i wr => ∃ k : Nat, k ≤ n ∧ g = n - k ∧ i = .int .i64 k ∧ Below w.heap.size w wr ∧ decide (l.drop k = l'.drop k) = decide (l = l'))
    case atStart => exact ⟨0, Nat.zero_le _, rfl, rfl, Below.refl _ _, rfl⟩
    case round =>
      obtain ⟨k, hk, rfl, rfl, hB, hS⟩ := hrel
      have HS := hid hS
      have HB := hid hB
      clear hS
      by_cases hlt : k < n
      · have hlz : (k : Int) < (n : Int) := by omega
        obtain ⟨hv, hv', hl, hl'⟩ := H.out
        obtain ⟨r, hr⟩ : ∃ s, l[k]? = some s := ⟨_, List.getElem?_eq_getElem (by omega)⟩
        obtain ⟨s, hs⟩ : ∃ s, l'[k]? = some s := ⟨_, List.getElem?_eq_getElem (by omega)⟩
        have hst := same_step hr hs
        rw [HS.out] at hst
        have HT := hid hst
        obtain ⟨rfl, h0, h1, h2, h3⟩ := vw_at (hv.below hB) hr
        obtain ⟨rfl, g0, g1, g2, g3⟩ := vw_at (hv'.below hB) hs
        clear hv hv' hl hl' hr hs hst hB
        by_cases e : r = s
        · subst e
          go_wp2
          go_quiet (fail)
          go_wp2
          go_roundg (n - (k + 1))
          case measure => omega
          case rel => exact ⟨k + 1, hlt, rfl, by simp, below_drewN HB.out _, by rw [HT.out]; simp⟩
        · obtain ⟨r0, r1, r2, r3⟩ := r
          obtain ⟨s0, s1, s2, s3⟩ := s
          dsimp only at h0 h1 h2 h3 g0 g1 g2 g3
          have d1 : eq4 r0 r1 r2 r3 s0 s1 s2 s3 = false := decide_eq_false e
          go_wp2
          go_quiet (fail)
          go_wp2
          go_ret
          rw [HT.out, decide_eq_false e]
          exact ⟨rfl, below_drewN HB.out _⟩
      · obtain rfl : k = n := by omega
        go_wp2
        go_ret
        obtain ⟨-, -, hl, hl'⟩ := H.out
        rw [← HS.out, List.drop_eq_nil_of_le (by omega), List.drop_eq_nil_of_le (by omega)]
        exact ⟨rfl, hB⟩
  · have E : decide (l = l') = false := by simp; rintro rfl; omega
    rw [E]
    have hne : ¬ ((n : Int) = (n' : Int)) := by omega
    clear h h' hl hl' E
    go_enter Tryd.func10, Tryd.ntmps10
    go_wp2
    all_goals
      go_ret
      exact ⟨rfl, Below.refl _ _⟩
end Go.Proofs.YteiihgoobhlkbaaDoor.Rg
/- Numbers put into a list that rises: the contract. -/
namespace Go.Proofs.YteiihgoobhlkbaaDoor.Rg
open Num Go.RowKit
set_option linter.unusedVariables false
attribute [local go_sem ↓] run_app
attribute [local go_sem] lenV_slice

theorem info3 : (Tryd.prog.info? 3).map (fun i => (i.zero, i.size, i.bytes)) = some (some (.int .i64 0), 1, 8) := by kernel_rfl

theorem app_int {B : Nat} {w : World} {ao : Option Addr} {n c b off : Nat} {l : List Int} (h : Oi B w ao n c b off l) (hB : B ≤ w.heap.size) (hn : n ≤ 4000000000000) (x : Int) :
    ∃ b' off', App 1 B #[37, 37] 37 (w.alloc (.cells #[.int .i64 x] 3)) ao n c b (ints l) (.slice (some ⟨w.heap.size, 0, none⟩) 1 1) 1 [.int .i64 x] b' off' := by
  refine app_own (h.below ((Below.refl _ _).alloc (Nat.le_refl _) _)) (by simp; omega) 37 37 37 3 _ 8 Tryd.underlying37 info3 rfl _ 1 [.int .i64 x] ?_ (by simp only [maxLen]; omega) (by omega)
  refine Src.ofSlice _ Tryd.underlying37 ⟨w.heap.size, 0, none⟩ 1 1 [.int .i64 x] rfl (fun j u hu => ?_) (fun u hu => ?_)
  · rw [Addr.add_lit, Nat.zero_add]
    match j, hu with
    | 0, hu => rw [← hu]; simp
    | j + 1, hu => simp at hu
  · simp only [List.mem_cons, List.not_mem_nil, or_false] at hu
    subst hu; rfl
theorem app_rect {B : Nat} {w : World} {ao : Option Addr} {n c b off : Nat} {l : List R} (h : Ow B w ao n c b off l) (hB : B ≤ w.heap.size) (hn : n ≤ 4000000000000) (r : R) :
    ∃ b' off', App 4 B #[26, 26] 26 (w.alloc (.cells #[.int .i64 r.x0, .int .i64 r.y0, .int .i64 r.x1, .int .i64 r.y1] 34)) ao n c b (flat l) (.slice (some ⟨w.heap.size, 0, none⟩) 1 1) 1 (cells4 r) b' off' :=
  app_own (h.below ((Below.refl _ _).alloc (Nat.le_refl _) _)) (by simp; omega) 26 26 26 34 _ 32 Tryd.underlying26 info34 rfl _ 1 (cells4 r) (srcR _ _ _ (by simp)) (by simp only [maxLen]; omega) (by omega)

theorem oi_app {B : Nat} {w : World} {ao : Option Addr} {n c b' off' : Nat} {l : List Int} {x : Int} (h : Oz 1 B w ao n c b' off' (ints l ++ [.int .i64 x])) : Oi B w ao n c b' off' (l ++ [x]) := by
  rw [show ints l ++ [Value.int .i64 x] = ints (l ++ [x]) by rw [ints_append]; rfl] at h
  exact h
theorem ow_app {B : Nat} {w : World} {ao : Option Addr} {n c b' off' : Nat} {l : List R} {r : R} (h : Oz 4 B w ao n c b' off' (flat l ++ cells4 r)) : Ow B w ao n c b' off' (l ++ [r]) := by
  rw [show flat l ++ cells4 r = flat (l ++ [r]) by rw [flat_append]; rfl] at h
  exact h
theorem oi_len {B : Nat} {w : World} {ao : Option Addr} {n c b off : Nat} {l : List Int} (h : Oi B w ao n c b off l) : l.length = n := vi_len h.v
def RetI (B : Nat) (w : World) (e : Ending) (l : List Int) : Prop := ∃ ao n c b off, e = .returned (.slice ao n c) ∧ Oi B w ao n c b off l
theorem retI {B : Nat} {w : World} {e : Ending} {l : List Int} (h : RetI B w e l) : ∃ ao n c b off, e = .returned (.slice ao n c) ∧ Oi B w ao n c b off l := h

theorem filter_yes {p : Int → Bool} {l : List Int} {k : Nat} {m : Int} (h : l[k]? = some m) (hp : p m = true) : (l.take (k + 1)).filter p = (l.take k).filter p ++ [m] := by
  obtain ⟨hk, rfl⟩ := List.getElem?_eq_some_iff.1 h
  rw [List.take_succ_eq_append_getElem hk, List.filter_append]
  simp [hp]
theorem filter_no {p : Int → Bool} {l : List Int} {k : Nat} {m : Int} (h : l[k]? = some m) (hp : p m = false) : (l.take (k + 1)).filter p = (l.take k).filter p := by
  obtain ⟨hk, rfl⟩ := List.getElem?_eq_some_iff.1 h
  rw [List.take_succ_eq_append_getElem hk, List.filter_append]
  simp [hp]

set_option maxRecDepth 100000 in
set_option maxHeartbeats 2000000 in
theorem put_any (W : World) (ao : Option Addr) (n c b off : Nat) (l : List Int) (x : Int) (h : Vi W ao n c b off l) (hN : n ≤ 1000000) :
    Calls Tryd.prog 18 #[.slice ao n c, .int .i64 x] W fun e w' => RetI W.heap.size w' e (putL l x) ∧ Below W.heap.size W w' := by
  have H : Hid (Vi W ao n c b off l ∧ l.length = n) := ⟨h, vi_len h⟩
  clear h
  go_enter Tryd.func18, Tryd.ntmps18
  go_wp2
  go_loopg [5, 6] n (fun g v5 v6 wr => ∃ k mo mn1 mc mb moff, k ≤ n ∧ g = n - k ∧ v6 = .int .i64 (k : Nat) ∧ v5 = .slice mo mn1 mc ∧ Oi W.heap.size wr mo mn1 mc mb moff ((l.take k).filter fun m => decide (m < x)) ∧ Below W.heap.size W wr)
  case atStart => exact ⟨0, _, _, _, 0, 0, Nat.zero_le _, rfl, rfl, rfl, oz_nil _ _ _ _, Below.refl _ _⟩
  case round =>
    obtain ⟨k, mo, mn1, mc, mb, moff, hk, rfl, rfl, rfl, hO, hB⟩ := hrel
    have hmn : mn1 ≤ k := by rw [← oi_len hO]; exact Nat.le_trans (List.length_filter_le _ _) (by rw [List.length_take]; omega)
    have HO : Hid (Oi W.heap.size wr mo mn1 mc mb moff ((l.take k).filter fun m => decide (m < x)) ∧ Below W.heap.size W wr) := ⟨hO, hB⟩
    by_cases hlt : k < n
    · have hlz : (k : Int) < (n : Int) := by omega
      obtain ⟨m, hm⟩ : ∃ m, l[k]? = some m := ⟨_, List.getElem?_eq_getElem (by rw [H.out.2]; exact hlt)⟩
      obtain ⟨rfl, h0⟩ := vi_at (H.out.1.below hB) hm
      have HM := hid hm
      have hb1 : b < wr.heap.size := World.block_lt_of_cell? _ _ h0
      by_cases hx : m < x
      · obtain ⟨b', off', hA⟩ := app_int hO hB.size (by omega) m
        have hF := hA.fine
        have HA := hid hA
        clear hO hB hm hA
        go_wp2
        go_roundg (n - (k + 1))
        case measure => omega
        case rel =>
          refine ⟨k + 1, _, _, _, b', off', hlt, rfl, by simp, rfl, ?_, ?_⟩
          · rw [filter_yes HM.out (by simpa using hx)]
            exact oi_app HA.out.own
          · exact (HO.out.2.alloc HO.out.2.size _).trans HA.out.below
      · clear hO hB hm
        go_wp2
        go_roundg (n - (k + 1))
        case measure => omega
        case rel =>
          refine ⟨k + 1, _, _, _, mb, moff, hlt, rfl, by simp, rfl, ?_, HO.out.2⟩
          rw [filter_no HM.out (by simpa using hx)]
          exact HO.out.1
    · obtain rfl : k = n := by omega
      have HT : Hid (l.take k = l) := by show l.take k = l; exact List.take_of_length_le (by rw [H.out.2]; exact Nat.le_refl _)
      obtain ⟨b', off', hA⟩ := app_int hO hB.size (by omega) x
      have hF := hA.fine
      have HA := hid hA
      clear hO hB hA
      go_wp2
      have HC : Hid (Oi W.heap.size (apW Tryd.prog #[37, 37] 37 (wr.alloc (.cells #[.int .i64 x] 3)) (.slice mo mn1 mc) (.slice (some ⟨wr.heap.size, 0, none⟩) 1 1)) (apA Tryd.prog #[37, 37] 37 (wr.alloc (.cells #[.int .i64 x] 3)) (.slice mo mn1 mc) (.slice (some ⟨wr.heap.size, 0, none⟩) 1 1)) (mn1 + 1) (apC Tryd.prog #[37, 37] 37 (wr.alloc (.cells #[.int .i64 x] 3)) (.slice mo mn1 mc) (.slice (some ⟨wr.heap.size, 0, none⟩) 1 1)) b' off' ((l.filter fun m => decide (m < x)) ++ [x]) ∧ Below W.heap.size W (apW Tryd.prog #[37, 37] 37 (wr.alloc (.cells #[.int .i64 x] 3)) (.slice mo mn1 mc) (.slice (some ⟨wr.heap.size, 0, none⟩) 1 1))) := by
        refine ⟨?_, (HO.out.2.alloc HO.out.2.size _).trans HA.out.below⟩
        have := oi_app HA.out.own
        rw [HT.out] at this
        exact this
      clear hF HA HO hmn
      go_loopg [5, 7] k (fun g v5 v7 wr => ∃ k' mo mn1 mc mb moff, k' ≤ k ∧ g = k - k' ∧ v7 = .int .i64 (k' : Nat) ∧ v5 = .slice mo mn1 mc ∧ Oi W.heap.size wr mo mn1 mc mb moff ((l.filter fun m => decide (m < x)) ++ [x] ++ ((l.take k').filter fun m => decide (x < m))) ∧ Below W.heap.size W wr)
      case atStart => exact ⟨0, _, _, _, b', off', Nat.zero_le _, rfl, rfl, rfl, by simpa using HC.out.1, HC.out.2⟩
      case round =>
        clear HC
        obtain ⟨k', mo, mn1, mc, mb, moff, hk', rfl, rfl, rfl, hO, hB⟩ := hrel
        have hmn : mn1 ≤ 2 * k + 1 := by
          rw [← oi_len hO, List.length_append, List.length_append]
          have h1 := List.length_filter_le (fun m => decide (m < x)) l
          have h2 := List.length_filter_le (fun m => decide (x < m)) (l.take k')
          rw [List.length_take] at h2
          have := H.out.2
          simp only [List.length_cons, List.length_nil]
          omega
        have HO : Hid (Oi W.heap.size wr mo mn1 mc mb moff ((l.filter fun m => decide (m < x)) ++ [x] ++ ((l.take k').filter fun m => decide (x < m))) ∧ Below W.heap.size W wr) := ⟨hO, hB⟩
        by_cases hlt : k' < k
        · have hlz : (k' : Int) < (k : Int) := by omega
          obtain ⟨m, hm⟩ : ∃ m, l[k']? = some m := ⟨_, List.getElem?_eq_getElem (by rw [H.out.2]; exact hlt)⟩
          obtain ⟨rfl, h0⟩ := vi_at (H.out.1.below hB) hm
          have HM := hid hm
          have hb1 : b < wr.heap.size := World.block_lt_of_cell? _ _ h0
          by_cases hx : x < m
          · obtain ⟨b', off', hA⟩ := app_int hO hB.size (by omega) m
            have hF := hA.fine
            have HA := hid hA
            clear hO hB hm hA
            go_wp2
            go_roundg (k - (k' + 1))
            case measure => omega
            case rel =>
              refine ⟨k' + 1, _, _, _, b', off', hlt, rfl, by simp, rfl, ?_, ?_⟩
              · rw [filter_yes HM.out (by simpa using hx), ← List.append_assoc]
                exact oi_app HA.out.own
              · exact (HO.out.2.alloc HO.out.2.size _).trans HA.out.below
          · clear hO hB hm
            go_wp2
            go_roundg (k - (k' + 1))
            case measure => omega
            case rel =>
              refine ⟨k' + 1, _, _, _, mb, moff, hlt, rfl, by simp, rfl, ?_, HO.out.2⟩
              rw [filter_no HM.out (by simpa using hx)]
              exact HO.out.1
        · obtain rfl : k' = k := by omega
          clear hO hB
          go_wp2
          go_ret
          refine ⟨⟨_, _, _, mb, moff, rfl, ?_⟩, HO.out.2⟩
          have := HO.out.1
          rw [HT.out] at this
          unfold putL
          rw [List.append_assoc] at this
          exact this
end Go.Proofs.YteiihgoobhlkbaaDoor.Rg
