/- Lists of numbers, of truths and of lists in memory: a cell each. -/
import Derived.Test.YtleclkjinkbebaaCells
namespace Go.Proofs.Ytleclkjinkbebaa
open Num Go.RowKit
set_option linter.unusedVariables false

def ints (l : List Int) : List Value := l.map (Value.int .i64)
def bools (l : List Bool) : List Value := l.map Value.bool
theorem ints_at {l : List Int} {i : Nat} {n : Int} (h : l[i]? = some n) : (ints l)[i]? = some (.int .i64 n) := by unfold ints; rw [List.getElem?_map, h]; rfl
theorem ints_len (l : List Int) : (ints l).length = l.length * 1 := by unfold ints; simp
theorem bools_at {l : List Bool} {i : Nat} {n : Bool} (h : l[i]? = some n) : (bools l)[i]? = some (.bool n) := by unfold bools; rw [List.getElem?_map, h]; rfl
theorem bools_len (l : List Bool) : (bools l).length = l.length * 1 := by unfold bools; simp
theorem ints_append (a b : List Int) : ints (a ++ b) = ints a ++ ints b := by unfold ints; rw [List.map_append]
theorem ints_take (l : List Int) (k : Nat) : ints (l.take k) = (ints l).take k := by unfold ints; rw [List.map_take]
theorem ints_set (l : List Int) (i : Nat) (v : Int) : ints (l.set i v) = (ints l).set i (.int .i64 v) := by unfold ints; rw [List.map_set]
theorem bools_set (l : List Bool) (i : Nat) (v : Bool) : bools (l.set i v) = (bools l).set i (.bool v) := by unfold bools; rw [List.map_set]
theorem one_ints (l : List Int) : ∀ v ∈ ints l, v.oneCell' = true := by
  intro v hv
  unfold ints at hv
  obtain ⟨r, -, rfl⟩ := List.mem_map.1 hv
  rfl
abbrev Vi (w : World) (ao : Option Addr) (n c b off : Nat) (l : List Int) : Prop := Vz 1 w ao n c b off (ints l)
abbrev Oi (B : Nat) (w : World) (ao : Option Addr) (n c b off : Nat) (l : List Int) : Prop := Oz 1 B w ao n c b off (ints l)
abbrev Vt (w : World) (ao : Option Addr) (n c b off : Nat) (l : List Bool) : Prop := Vz 1 w ao n c b off (bools l)
abbrev Ot (B : Nat) (w : World) (ao : Option Addr) (n c b off : Nat) (l : List Bool) : Prop := Oz 1 B w ao n c b off (bools l)
theorem vi_len {w : World} {ao : Option Addr} {n c b off : Nat} {l : List Int} (h : Vi w ao n c b off l) : l.length = n := by have := h.len; rw [ints_len] at this; omega
theorem vt_len {w : World} {ao : Option Addr} {n c b off : Nat} {l : List Bool} (h : Vt w ao n c b off l) : l.length = n := by have := h.len; rw [bools_len] at this; omega
theorem vi_at {w : World} {ao : Option Addr} {n c b off : Nat} {l : List Int} (h : Vi w ao n c b off l) {i : Nat} {m : Int} (hi : l[i]? = some m) : ao = some ⟨b, off, none⟩ ∧ w.cell? ⟨b, off + i, none⟩ = some (.int .i64 m) := by
  have hl := vi_len h
  have hlt : i < l.length := (List.getElem?_eq_some_iff.1 hi).1
  exact ⟨h.addr (by have := h.le; omega), h.lies _ _ (ints_at hi)⟩
theorem vt_at {w : World} {ao : Option Addr} {n c b off : Nat} {l : List Bool} (h : Vt w ao n c b off l) {i : Nat} {m : Bool} (hi : l[i]? = some m) : ao = some ⟨b, off, none⟩ ∧ w.cell? ⟨b, off + i, none⟩ = some (.bool m) := by
  have hl := vt_len h
  have hlt : i < l.length := (List.getElem?_eq_some_iff.1 hi).1
  exact ⟨h.addr (by have := h.le; omega), h.lies _ _ (bools_at hi)⟩
theorem vi_nth {w : World} {ao : Option Addr} {n c b off : Nat} {l : List Int} (h : Vi w ao n c b off l) {i : Nat} (hi : i < n) : w.cell? ⟨b, off + i, none⟩ = some (.int .i64 (nth l i)) :=
  (vi_at h (nth_get (by rw [vi_len h]; exact hi))).2
theorem vi_nil (w : World) (ao : Option Addr) : Vi w ao 0 0 0 0 [] := (oz_nil 1 0 w ao).v
theorem oi_nil (B : Nat) (w : World) (ao : Option Addr) : Oi B w ao 0 0 0 0 [] := oz_nil 1 B w ao
theorem vi_take {w : World} {ao : Option Addr} {n c b off : Nat} {l : List Int} (h : Vi w ao n c b off l) {k : Nat} (hk : k ≤ n) : Vi w ao k c b off (l.take k) := by
  have hl := vi_len h
  refine ⟨by rw [ints_len, List.length_take]; omega, by have := h.le; omega, h.max, h.addr, ?_⟩
  rw [ints_take]
  exact h.lies.take _
theorem oi_take {B : Nat} {w : World} {ao : Option Addr} {n c b off : Nat} {l : List Int} (h : Oi B w ao n c b off l) {k : Nat} (hk : k ≤ n) : Oi B w ao k c b off (l.take k) := ⟨vi_take h.v hk, h.new, h.room⟩
theorem oi_set {B : Nat} {w : World} {ao : Option Addr} {n c b off : Nat} {l : List Int} (h : Oi B w ao n c b off l) {i : Nat} (hi : i < n) (v : Int) : Oi B (w.setCell ⟨b, off + i, none⟩ (.int .i64 v)) ao n c b off (l.set i v) := by
  have := oz_set h (p := i) (by rw [ints_len, vi_len h.v]; omega) (.int .i64 v)
  rw [← ints_set] at this
  exact this
theorem ot_set {B : Nat} {w : World} {ao : Option Addr} {n c b off : Nat} {l : List Bool} (h : Ot B w ao n c b off l) {i : Nat} (hi : i < n) (v : Bool) : Ot B (w.setCell ⟨b, off + i, none⟩ (.bool v)) ao n c b off (l.set i v) := by
  have := oz_set h (p := i) (by rw [bools_len, vt_len h.v]; omega) (.bool v)
  rw [← bools_set] at this
  exact this
theorem oz_fz {sz B : Nat} {w : World} {ao : Option Addr} {n c b off : Nat} {cs : List Value} (h : Oz sz B w ao n c b off cs) {i : Nat} (hi : i < n * sz) : w.frozen? ⟨b, off + i, none⟩ = false :=
  (h.room i (Nat.lt_of_lt_of_le hi (Nat.mul_le_mul_right _ h.v.le))).2
theorem oi_fz {B : Nat} {w : World} {ao : Option Addr} {n c b off : Nat} {l : List Int} (h : Oi B w ao n c b off l) {i : Nat} (hi : i < n) : w.frozen? ⟨b, off + i, none⟩ = false := oz_fz h (by omega)
theorem ot_fz {B : Nat} {w : World} {ao : Option Addr} {n c b off : Nat} {l : List Bool} (h : Ot B w ao n c b off l) {i : Nat} (hi : i < n) : w.frozen? ⟨b, off + i, none⟩ = false := oz_fz h (by omega)

theorem info3 : (Try.prog.info? 3).map (fun i => (i.zero, i.size, i.bytes)) = some (some (.int .i64 0), 1, 8) := by kernel_rfl
theorem info4 : (Try.prog.info? 4).map (fun i => (i.zero, i.size, i.bytes)) = some (some (.bool false), 1, 1) := by kernel_rfl
theorem info29 : (Try.prog.info? 29).map (fun i => (i.zero, i.size, i.bytes)) = some (some (.slice none 0 0), 1, 24) := by kernel_rfl
/-- numbers in a new block -/
theorem oi_news {lo : Nat} {w : World} (hB : lo ≤ w.heap.size) (l : List Int) (hl : l.length ≤ 1000000) (t : TypeId) : Oi lo (w.alloc (.cells (ints l).toArray t)) (some ⟨w.heap.size, 0, none⟩) l.length l.length w.heap.size 0 l :=
  oz_news hB _ _ (ints_len l) hl t
theorem src_ints {t : TypeId} (ht : Try.prog.underlying t = some (.slice 3)) {w : World} {ao : Option Addr} {n c b off : Nat} {l : List Int} (h : Vi w ao n c b off l) : Src Try.prog 1 t (.slice ao n c) n (ints l) w := src_of h (by decide) ht (one_ints l)
/-- a number that was laid in a block of its own, to be put behind others -/
abbrev Lit1 (w : World) (g : Nat) (v : Int) : Prop := Vi w (some ⟨g, 0, none⟩) 1 1 g 0 [v]
theorem lit_new (w : World) (v : Int) : Lit1 (w.alloc (.cells #[.int .i64 v] 3)) w.heap.size v := (oi_news (w := w) (lo := 0) (Nat.zero_le _) [v] (by simp) 3).v
theorem lit_drew {w : World} {g : Nat} {v : Int} (h : Lit1 w g v) : Lit1 w.drew g v := ⟨h.len, h.le, h.max, h.addr, h.lies⟩
/-- a number behind numbers -/
theorem app_lit {t : TypeId} (ht : Try.prog.underlying t = some (.slice 3)) {lo : Nat} {w : World} {ao : Option Addr} {n c b off : Nat} {l : List Int} (h : Oi lo w ao n c b off l) (hB : lo ≤ w.heap.size) (hn : n ≤ 100000) {g : Nat} {v : Int} (hs : Lit1 w g v) :
    ∃ b'' off'', App 1 lo #[t, t] t w ao n c b (ints l) (.slice (some ⟨g, 0, none⟩) 1 1) 1 (ints [v]) b'' off'' :=
  app_own h hB t t t 3 _ 8 ht info3 rfl _ 1 (ints [v]) (src_ints ht hs) (by simp only [maxLen]; omega) (by omega)
theorem oi_app {B : Nat} {w : World} {ao : Option Addr} {n c b' off' : Nat} {l l' : List Int} (h : Oz 1 B w ao n c b' off' (ints l ++ ints l')) : Oi B w ao n c b' off' (l ++ l') := by
  rw [← ints_append] at h
  exact h
/-- a list is answered, in memory of one's own -/
def RetI (B : Nat) (w : World) (e : Ending) (l : List Int) : Prop := ∃ ao n c b off, e = .returned (.slice ao n c) ∧ Oi B w ao n c b off l
theorem retI {B : Nat} {w : World} {e : Ending} {l : List Int} (h : RetI B w e l) : ∃ ao n c b off, e = .returned (.slice ao n c) ∧ Oi B w ao n c b off l := h
def RetT (B : Nat) (w : World) (e : Ending) (l : List Bool) : Prop := ∃ ao n c b off, e = .returned (.slice ao n c) ∧ Ot B w ao n c b off l
theorem retT {B : Nat} {w : World} {e : Ending} {l : List Bool} (h : RetT B w e l) : ∃ ao n c b off, e = .returned (.slice ao n c) ∧ Ot B w ao n c b off l := h

/-- so many noughts -/
theorem run_zeros (n : Nat) (hn : n ≤ 1000000) (w : World) : (Instr.makeSlice 29 (.int .i64 (n : Int)) (.int .i64 (n : Int))).run Try.prog w = .ok (.slice (some ⟨w.heap.size, 0, none⟩) n n) (w.alloc (.cells (ints (List.replicate n 0)).toArray 3)) := by
  obtain ⟨i, hi, hz0, hz1, hz2⟩ := info_parts info3
  have := run_make (P := Try.prog) w 29 3 i _ Try.underlying29 hi hz0 .i64 .i64 n n (by omega) (Int.le_refl _) (by rw [hz2]; omega) (by omega)
  rw [hz1] at this
  simp only [Int.toNat_natCast] at this
  rw [this]
  congr 3
  unfold madeCells
  apply Array.ext
  · simp [ints]
  · intro j h1 h2
    rw [Array.getElem_map]
    simp [ints, Value.cells]
    rw [Nat.mod_one]; rfl
theorem ot_news {lo : Nat} {w : World} (hB : lo ≤ w.heap.size) (l : List Bool) (hl : l.length ≤ 1000000) (t : TypeId) : Ot lo (w.alloc (.cells (bools l).toArray t)) (some ⟨w.heap.size, 0, none⟩) l.length l.length w.heap.size 0 l :=
  oz_news hB _ _ (bools_len l) hl t
/-- so many lists that are nothing -/
def nils (n : Nat) : List Value := List.replicate n (.slice none 0 0)
theorem run_nils (n : Nat) (hn : n ≤ 1000000) (w : World) : (Instr.makeSlice 50 (.int .i64 (n : Int)) (.int .i64 (n : Int))).run Try.prog w = .ok (.slice (some ⟨w.heap.size, 0, none⟩) n n) (w.alloc (.cells (nils n).toArray 29)) := by
  obtain ⟨i, hi, hz0, hz1, hz2⟩ := info_parts info29
  have := run_make (P := Try.prog) w 50 29 i _ Try.underlying50 hi hz0 .i64 .i64 n n (by omega) (Int.le_refl _) (by rw [hz2]; omega) (by omega)
  rw [hz1] at this
  simp only [Int.toNat_natCast] at this
  rw [this]
  congr 3
  unfold madeCells
  apply Array.ext
  · simp [nils]
  · intro j h1 h2
    rw [Array.getElem_map]
    simp [nils, Value.cells]
    rw [Nat.mod_one]; rfl
end Go.Proofs.Ytleclkjinkbebaa
