/- Pixels in memory: four cells each; what is written into them. -/
import Derived.Test.YtfgfgfmimejpdaaMem
import Derived.Test.YtfgfgfmimejpdaaImg
import Derived.Test.YtfgfgfmimejpdaaRAreas
import Derived.Laws.IdiomCopy
namespace Go.Proofs.Ytfgfgfmimejpdaa
open Num Go.RowKit
set_option linter.unusedVariables false

theorem ret_int {k : IntKind} {a b : Int} (h : a = b) : Ending.returned (.int k a) = .returned (.int k b) := by rw [h]
theorem ret_bool {a b : Bool} (h : a = b) : Ending.returned (.bool a) = .returned (.bool b) := by rw [h]
theorem hid {p : Prop} (h : p) : Hid p := h
theorem below_drewN {B : Nat} {a w : World} (h : Below B a w) (n : Nat) : Below B a (w.drewN n) := ⟨h.os, h.tape, h.output, h.size, h.block⟩

def cells4 (r : X) : List Value := [.int .u8 r.c0, .int .u8 r.c1, .int .u8 r.c2, .int .u8 r.c3]
def flat (l : List X) : List Value := l.flatMap cells4

theorem flat_cons (r : X) (l : List X) : flat (r :: l) = .int .u8 r.c0 :: .int .u8 r.c1 :: .int .u8 r.c2 :: .int .u8 r.c3 :: flat l := rfl
theorem flat_nil : flat [] = [] := rfl
theorem flat_len : ∀ l : List X, (flat l).length = l.length * 4
  | [] => rfl
  | r :: l => by rw [flat_cons]; simp only [List.length_cons]; rw [flat_len l]; omega
theorem flat_append (a b : List X) : flat (a ++ b) = flat a ++ flat b := by unfold flat; rw [List.flatMap_append]
theorem flat_drop : ∀ (l : List X) (k : Nat), flat (l.drop k) = (flat l).drop (k * 4)
  | l, 0 => by simp
  | [], k + 1 => by simp [flat_nil]
  | r :: l, k + 1 => by
    rw [List.drop_succ_cons, flat_cons, show (k + 1) * 4 = k * 4 + 1 + 1 + 1 + 1 by omega, List.drop_succ_cons, List.drop_succ_cons, List.drop_succ_cons, List.drop_succ_cons]
    exact flat_drop l k
theorem flat_take : ∀ (l : List X) (k : Nat), flat (l.take k) = (flat l).take (k * 4)
  | l, 0 => by simp [flat_nil]
  | [], k + 1 => by simp [flat_nil]
  | r :: l, k + 1 => by
    rw [List.take_succ_cons, flat_cons, flat_cons, show (k + 1) * 4 = k * 4 + 1 + 1 + 1 + 1 by omega, List.take_succ_cons, List.take_succ_cons, List.take_succ_cons, List.take_succ_cons, flat_take l k]
theorem flat_at {l : List X} {i : Nat} {r : X} (h : l[i]? = some r) : (flat l)[i * 4]? = some (.int .u8 r.c0) ∧ (flat l)[i * 4 + 1]? = some (.int .u8 r.c1) ∧ (flat l)[i * 4 + 2]? = some (.int .u8 r.c2) ∧ (flat l)[i * 4 + 3]? = some (.int .u8 r.c3) := by
  have hd : flat (l.drop i) = .int .u8 r.c0 :: .int .u8 r.c1 :: .int .u8 r.c2 :: .int .u8 r.c3 :: flat (l.drop (i + 1)) := by
    obtain ⟨hi, rfl⟩ := List.getElem?_eq_some_iff.1 h
    rw [List.drop_eq_getElem_cons hi]; rfl
  rw [flat_drop] at hd
  have e : ∀ j, (flat l)[i * 4 + j]? = ((flat l).drop (i * 4))[j]? := fun j => by rw [List.getElem?_drop]
  have e0 := e 0
  rw [Nat.add_zero] at e0
  rw [e0, e 1, e 2, e 3, hd]
  exact ⟨rfl, rfl, rfl, rfl⟩

/-- a slice of rectangles -/
abbrev Vx (w : World) (ao : Option Addr) (n c b off : Nat) (l : List X) : Prop := Vz 4 w ao n c b off (flat l)
abbrev Ox (B : Nat) (w : World) (ao : Option Addr) (n c b off : Nat) (l : List X) : Prop := Oz 4 B w ao n c b off (flat l)

theorem vx_len {w : World} {ao : Option Addr} {n c b off : Nat} {l : List X} (h : Vx w ao n c b off l) : l.length = n := by have := h.len; rw [flat_len] at this; omega
theorem vx_small {sz : Nat} {w : World} {ao : Option Addr} {n c b off : Nat} {l : List Value} (h : Vz sz w ao n c b off l) : n ≤ 9223372036854775807 := by have h1 := h.le; have h2 := h.max; simp only [maxLen] at h2; omega
theorem vx_at {w : World} {ao : Option Addr} {n c b off : Nat} {l : List X} (h : Vx w ao n c b off l) {i : Nat} {r : X} (hi : l[i]? = some r) :
    ao = some ⟨b, off, none⟩ ∧ w.cell? ⟨b, off + i * 4, none⟩ = some (.int .u8 r.c0) ∧ w.cell? ⟨b, off + i * 4 + 1, none⟩ = some (.int .u8 r.c1) ∧ w.cell? ⟨b, off + i * 4 + 2, none⟩ = some (.int .u8 r.c2) ∧ w.cell? ⟨b, off + i * 4 + 3, none⟩ = some (.int .u8 r.c3) := by
  have hl := vx_len h
  have hlt : i < l.length := (List.getElem?_eq_some_iff.1 hi).1
  obtain ⟨e0, e1, e2, e3⟩ := flat_at hi
  exact ⟨h.addr (by have := h.le; omega), h.lies _ _ e0, h.lies _ _ e1, h.lies _ _ e2, h.lies _ _ e3⟩
theorem vx_at0 {w : World} {ao : Option Addr} {n c b off : Nat} {l : List X} {r : X} (h : Vx w ao n c b off (r :: l)) :
    ao = some ⟨b, off, none⟩ ∧ w.cell? ⟨b, off, none⟩ = some (.int .u8 r.c0) ∧ w.cell? ⟨b, off + 1, none⟩ = some (.int .u8 r.c1) ∧ w.cell? ⟨b, off + 2, none⟩ = some (.int .u8 r.c2) ∧ w.cell? ⟨b, off + 3, none⟩ = some (.int .u8 r.c3) := by
  have := vx_at h (i := 0) (r := r) rfl
  simpa using this
theorem vx_nil (w : World) (ao : Option Addr) : Vx w ao 0 0 0 0 [] := (oz_nil 4 0 w ao).v

/-- one block alone is written -/
structure But (b : Nat) (w w' : World) : Prop where
  os : w'.os = w.os
  tape : w'.tape = w.tape
  output : w'.output = w.output
  size : w.heap.size ≤ w'.heap.size
  block : ∀ k, k < w.heap.size → k ≠ b → w'.heap[k]? = w.heap[k]?
theorem But.refl (b : Nat) (w : World) : But b w w := ⟨rfl, rfl, rfl, Nat.le_refl _, fun _ _ _ => rfl⟩
theorem But.trans {b : Nat} {x y z : World} (h : But b x y) (k : But b y z) : But b x z :=
  ⟨k.os.trans h.os, k.tape.trans h.tape, k.output.trans h.output, Nat.le_trans h.size k.size, fun i hi hb => (k.block i (Nat.lt_of_lt_of_le hi h.size) hb).trans (h.block i hi hb)⟩
theorem But.of {b : Nat} {w w' : World} (h : Below w.heap.size w w') : But b w w' := ⟨h.os, h.tape, h.output, h.size, fun k hk _ => h.block k hk⟩
theorem But.to {b : Nat} {w w' w'' : World} (h : But b w w') (k : Below w'.heap.size w' w'') : But b w w'' := h.trans (But.of k)
theorem But.low {b B : Nat} {w w' : World} (h : But b w w') (h1 : B ≤ b) (h2 : B ≤ w.heap.size) : Below B w w' := ⟨h.os, h.tape, h.output, h.size, fun k hk => h.block k (by omega) (by omega)⟩
theorem but_cells (b o : Nat) (vs : List Value) (w : World) : But b w (w.setCells b o vs) := by
  have h := below_setCells (B := 0) (b := b) (Nat.zero_le _) vs o w
  exact ⟨h.os, h.tape, h.output, h.size, fun k _ hk => heap_setCells b vs o w k hk⟩
theorem Vz.but {sz g : Nat} {W w : World} {ao : Option Addr} {n c b off : Nat} {cs : List Value} (h : Vz sz W ao n c b off cs) (hb : But g W w) (hg : b ≠ g) : Vz sz w ao n c b off cs := by
  refine ⟨h.len, h.le, h.max, h.addr, fun j u hu => ?_⟩
  have hj : j < cs.length := (List.getElem?_eq_some_iff.1 hu).1
  exact (World.cell?_of_block (a := ⟨b, off + j, none⟩) (hb.block b (h.lies.lt (by omega)) hg)).trans (h.lies j u hu)
theorem Oz.but {sz B g : Nat} {W w : World} {ao : Option Addr} {n c b off : Nat} {cs : List Value} (h : Oz sz B W ao n c b off cs) (hb : But g W w) (hg : 0 < c → b ≠ g) : Oz sz B w ao n c b off cs :=
  h.block hb.size fun hc => hb.block b (h.new hc).2 (hg hc)

/-- pixels are written over some of a slice's -/
theorem flat_set (l : List X) (s : Nat) (news : List X) : flat (setL l s news) = (flat l).take (s * 4) ++ flat news ++ (flat l).drop (s * 4 + (flat news).length) := by
  unfold setL
  rw [flat_append, flat_append, flat_take, flat_drop, flat_len, Nat.add_mul]
theorem ox_put {B : Nat} {w : World} {ao : Option Addr} {n c b off : Nat} {l : List X} (h : Ox B w ao n c b off l) {s : Nat} {news : List X} (hs : s + news.length ≤ n) :
    Ox B (w.setCells b (off + s * 4) (flat news)) ao n c b off (setL l s news) := by
  have hl := vx_len h.v
  have hle := h.v.le
  have hroom : ∀ j, j < (flat news).length → (w.cell? ⟨b, off + s * 4 + j, none⟩).isSome = true := by
    intro j hj
    rw [flat_len] at hj
    rw [Nat.add_assoc]
    exact (h.room _ (by omega)).1
  refine ⟨⟨?_, h.v.le, h.v.max, h.v.addr, ?_⟩, fun hc => ?_, ?_⟩
  · rw [flat_len, setL_len (by omega), hl]
  · rw [flat_set]
    intro j u hu
    have htk : ((flat l).take (s * 4)).length = s * 4 := by rw [List.length_take, flat_len]; omega
    by_cases h1 : j < s * 4
    · rw [List.append_assoc, List.getElem?_append_left (by omega), List.getElem?_take, if_pos h1] at hu
      rw [World.cell?_setCells_out _ _ _ _ _ (fun _ _ => Or.inl (by dsimp only; omega))]
      exact h.v.lies j u hu
    · rw [List.append_assoc, List.getElem?_append_right (by omega), htk] at hu
      by_cases h2 : j - s * 4 < (flat news).length
      · rw [List.getElem?_append_left h2] at hu
        have := World.cell?_setCells_in b (flat news) (off + s * 4) w hroom (j - s * 4) h2
        rw [show off + s * 4 + (j - s * 4) = off + j by omega] at this
        rw [this, ← hu, List.getElem?_eq_getElem h2]
      · rw [List.getElem?_append_right (by omega), List.getElem?_drop, show s * 4 + (flat news).length + (j - s * 4 - (flat news).length) = j by omega] at hu
        rw [World.cell?_setCells_out _ _ _ _ _ (fun _ _ => Or.inr (by dsimp only; omega))]
        exact h.v.lies j u hu
  · exact ⟨(h.new hc).1, Nat.lt_of_lt_of_le (h.new hc).2 (but_cells _ _ _ _).size⟩
  · intro j hj
    rw [World.frozen?_setCells]
    refine ⟨?_, (h.room j hj).2⟩
    by_cases hin : s * 4 ≤ j ∧ j < s * 4 + (flat news).length
    · have := World.cell?_setCells_in b (flat news) (off + s * 4) w hroom (j - s * 4) (by omega)
      rw [show off + s * 4 + (j - s * 4) = off + j by omega] at this
      rw [this]; rfl
    · rw [World.cell?_setCells_out _ _ _ _ _ (fun _ _ => by dsimp only; omega)]
      exact (h.room j hj).1

theorem one_flat (l : List X) : ∀ v ∈ flat l, v.oneCell' = true := by
  intro v hv
  unfold flat at hv
  obtain ⟨r, -, hr⟩ := List.mem_flatMap.1 hv
  simp only [cells4, List.mem_cons, List.not_mem_nil, or_false] at hr
  rcases hr with rfl | rfl | rfl | rfl <;> rfl
theorem info28 : (Try.prog.info? 28).map (fun i => (i.zero, i.size, i.bytes)) = some (some (.agg #[.int .u8 0, .int .u8 0, .int .u8 0, .int .u8 0]), 4, 4) := by kernel_rfl
theorem info_parts {e : TypeId} {z : Value} {sz bytes : Nat} (h : (Try.prog.info? e).map (fun i => (i.zero, i.size, i.bytes)) = some (some z, sz, bytes)) : ∃ i, Try.prog.info? e = some i ∧ i.zero = some z ∧ i.size = sz ∧ i.bytes = bytes := by
  cases hi : Try.prog.info? e with
  | none => rw [hi] at h; simp at h
  | some i =>
    rw [hi] at h
    simp at h
    exact ⟨i, rfl, h.1, h.2.1, h.2.2⟩

/-- so many pixels that are nothing -/
def none4 (n : Nat) : List X := List.replicate n noX
theorem none4_flat (n : Nat) : flat (none4 n) = List.replicate (n * 4) (Value.int .u8 0) := by
  induction n with
  | zero => rfl
  | succ n ih =>
    show flat (noX :: none4 n) = _
    rw [flat_cons, ih, show (n + 1) * 4 = n * 4 + 1 + 1 + 1 + 1 by omega]
    rfl
theorem zero_at (j : Nat) : (#[Value.int .u8 0, .int .u8 0, .int .u8 0, .int .u8 0] : Array Value)[j % 4]! = Value.int .u8 0 := by
  have h4 : j % 4 < 4 := Nat.mod_lt _ (by omega)
  generalize j % 4 = m at h4
  match m, h4 with
  | 0, _ => rfl
  | 1, _ => rfl
  | 2, _ => rfl
  | 3, _ => rfl
theorem zeroCells4 (n : Nat) : Builtin.zeroCells (#[.int .u8 0, .int .u8 0, .int .u8 0, .int .u8 0] : Array Value) n = (flat (none4 n)).toArray := by
  unfold Builtin.zeroCells
  rw [none4_flat]
  apply Array.ext
  · simp
  · intro j h1 h2
    rw [Array.getElem_map]
    simp only [Array.getElem_range, List.getElem_toArray, List.getElem_replicate]
    exact zero_at j
theorem none4_line (a b : Int) : none4 (b - a).toNat = line (fun _ => noX) a b := by
  unfold none4 line
  apply List.ext_getElem?
  intro j
  rw [List.getElem?_replicate, List.getElem?_map]
  by_cases hj : j < (b - a).toNat
  · rw [if_pos hj, List.getElem?_range hj]; rfl
  · rw [if_neg hj, List.getElem?_eq_none (by simp; omega)]; rfl

theorem run_clear4 (w : World) (ty : TypeId) (ao : Option Addr) (m c b o : Nat) (ha : 0 < m → ao = some ⟨b, o, none⟩) (hr : ∀ j, j < m * 4 → (w.cell? ⟨b, o + j, none⟩).isSome = true ∧ w.frozen? ⟨b, o + j, none⟩ = false) :
    (Builtin.clear_ #[24] ty #[.slice ao m c]).run Try.prog w = .ok (.tuple #[]) (w.setCells b o (flat (none4 m))) := by
  obtain ⟨i, hi, hz0, hz1, hz2⟩ := info_parts info28
  cases m with
  | zero => cases ao <;> simp [Builtin.clear_, run_underlying Try.underlying24, none4, flat, World.setCells]
  | succ m =>
    obtain rfl := ha (by omega)
    have hst := run_storeCells_cells (P := Try.prog) b o (flat (none4 (m + 1))) 0 w (fun j hj => by rw [flat_len] at hj; simp [none4] at hj; exact (hr j (by omega)).1) (fun j hj => by rw [flat_len] at hj; simp [none4] at hj; exact (hr j (by omega)).2) (one_flat _)
    simp [Builtin.clear_, run_underlying Try.underlying24, zeroValue, typeInfo, hi, hz0, Value.cells, zeroCells4, hst]
theorem run_copy4 (w : World) (ty : TypeId) (m c c' b o b' o' : Nat) (l : List X) (hl : l.length = m) (hsrc : Lies w b' o' (flat l)) (hr : ∀ j, j < m * 4 → (w.cell? ⟨b, o + j, none⟩).isSome = true ∧ w.frozen? ⟨b, o + j, none⟩ = false) :
    (Builtin.copy_ #[24, 24] ty #[.slice (some ⟨b, o, none⟩) m c, .slice (some ⟨b', o', none⟩) m c']).run Try.prog w = .ok (goInt m) (w.setCells b o (flat l)) := by
  obtain ⟨i, hi, hz0, hz1, hz2⟩ := info_parts info28
  have hst := run_storeCells_cells (P := Try.prog) b o (flat l) 0 w (fun j hj => by rw [flat_len] at hj; exact (hr j (by omega)).1) (fun j hj => by rw [flat_len] at hj; exact (hr j (by omega)).2) (one_flat _)
  have hld := run_loadCells_list (P := Try.prog) w ⟨b', o', none⟩ (flat l) (fun j v hv => by rw [Addr.add_lit]; exact hsrc j v hv)
  rw [flat_len, hl] at hld
  simp [Builtin.copy_, run_underlying Try.underlying24, Builtin.lenOf, Builtin.firstCells, sizeOf, typeInfo, hi, hz1, hld, hst]

/-- a buffer's five cells -/
structure Has5 (w : World) (k : Nat) (B : R) (ao : Option Addr) (n c : Nat) : Prop where
  c0 : w.cell? ⟨k, 0, none⟩ = some (.int .i64 B.x0)
  c1 : w.cell? ⟨k, 1, none⟩ = some (.int .i64 B.y0)
  c2 : w.cell? ⟨k, 2, none⟩ = some (.int .i64 B.x1)
  c3 : w.cell? ⟨k, 3, none⟩ = some (.int .i64 B.y1)
  c4 : w.cell? ⟨k, 4, none⟩ = some (.slice ao n c)
  fz : ∀ j, w.frozen? ⟨k, j, none⟩ = false
theorem Has5.lt {w : World} {k : Nat} {B : R} {ao : Option Addr} {n c : Nat} (h : Has5 w k B ao n c) : k < w.heap.size := World.block_lt_of_cell? w ⟨k, 0, none⟩ h.c0
theorem Has5.block {w w' : World} {k : Nat} {B : R} {ao : Option Addr} {n c : Nat} (h : Has5 w k B ao n c) (e : w'.heap[k]? = w.heap[k]?) : Has5 w' k B ao n c := by
  have hc : ∀ j, w'.cell? ⟨k, j, none⟩ = w.cell? ⟨k, j, none⟩ := fun j => World.cell?_of_block (a := ⟨k, j, none⟩) e
  exact ⟨by rw [hc]; exact h.c0, by rw [hc]; exact h.c1, by rw [hc]; exact h.c2, by rw [hc]; exact h.c3, by rw [hc]; exact h.c4, fun j => by rw [World.frozen?_of_block (a := ⟨k, j, none⟩) e]; exact h.fz j⟩
theorem Has5.below {w w' : World} {k : Nat} {B : R} {ao : Option Addr} {n c : Nat} (h : Has5 w k B ao n c) (hb : Below w.heap.size w w') : Has5 w' k B ao n c := h.block (hb.block k h.lt)
theorem Has5.but {g : Nat} {w w' : World} {k : Nat} {B : R} {ao : Option Addr} {n c : Nat} (h : Has5 w k B ao n c) (hb : But g w w') (hg : k ≠ g) : Has5 w' k B ao n c := h.block (hb.block k h.lt hg)
theorem Has5.alloc {w : World} {k : Nat} {B : R} {ao : Option Addr} {n c : Nat} (h : Has5 w k B ao n c) (o : Obj) : Has5 (w.alloc o) k B ao n c := h.below ((Below.refl _ _).alloc (Nat.le_refl _) _)
theorem Has5.new {W : World} {k : Nat} (hk : k = W.heap.size) (x0 y0 x1 y1 : Int) (ao : Option Addr) (n c : Nat) (t : TypeId) : Has5 (W.alloc (.cells #[.int .i64 x0, .int .i64 y0, .int .i64 x1, .int .i64 y1, .slice ao n c] t)) k ⟨x0, y0, x1, y1⟩ ao n c := by
  subst hk
  exact ⟨World.cell?_alloc_new W _ _ 0, World.cell?_alloc_new W _ _ 1, World.cell?_alloc_new W _ _ 2, World.cell?_alloc_new W _ _ 3, World.cell?_alloc_new W _ _ 4, fun j => World.frozen?_alloc_new W _ _ j⟩
end Go.Proofs.Ytfgfgfmimejpdaa
