/- Lists of numbers in memory: a cell each; what is appended to them. -/
import Derived.Test.YtageofpkfghllaaMem
import Derived.Test.YtageofpkfghllaaTintNum
import Derived.Laws.MakeOwn
import Derived.Deep.RegionLaw
import Derived.BigRegion
namespace Go.Proofs.Ytageofpkfghllaa
open Num Go.RowKit
set_option linter.unusedVariables false

theorem hid {p : Prop} (h : p) : Hid p := h
theorem below_drewN {B : Nat} {a w : World} (h : Below B a w) (n : Nat) : Below B a (w.drewN n) := ⟨h.os, h.tape, h.output, h.size, h.block⟩
theorem bcell {W w1 : World} (hb : Below W.heap.size W w1) : (∀ b o, b < W.heap.size → w1.cell? ⟨b, o, none⟩ = W.cell? ⟨b, o, none⟩) ∧ (∀ b o, b < W.heap.size → w1.frozen? ⟨b, o, none⟩ = W.frozen? ⟨b, o, none⟩) :=
  ⟨fun b o h => hb.cell (p := ⟨b, o, none⟩) h, fun b o h => hb.frozen (p := ⟨b, o, none⟩) h⟩
theorem via {w W1 w' : World} (h1 : Below w.heap.size w W1) (hb : Below W1.heap.size W1 w') : Below w.heap.size w w' := h1.trans (hb.mono h1.size)

def ints (l : List Int) : List Value := l.map (Value.int .i64)
theorem ints_at {l : List Int} {i : Nat} {n : Int} (h : l[i]? = some n) : (ints l)[i]? = some (.int .i64 n) := by unfold ints; rw [List.getElem?_map, h]; rfl
theorem ints_len (l : List Int) : (ints l).length = l.length * 1 := by unfold ints; simp
theorem ints_append (a b : List Int) : ints (a ++ b) = ints a ++ ints b := by unfold ints; rw [List.map_append]
theorem ints_drop (l : List Int) (k : Nat) : ints (l.drop k) = (ints l).drop k := by unfold ints; rw [List.map_drop]
theorem ints_take (l : List Int) (k : Nat) : ints (l.take k) = (ints l).take k := by unfold ints; rw [List.map_take]
theorem one_ints (l : List Int) : ∀ v ∈ ints l, v.oneCell' = true := by
  intro v hv
  unfold ints at hv
  obtain ⟨r, -, rfl⟩ := List.mem_map.1 hv
  rfl
abbrev Vi (w : World) (ao : Option Addr) (n c b off : Nat) (l : List Int) : Prop := Vz 1 w ao n c b off (ints l)
abbrev Oi (B : Nat) (w : World) (ao : Option Addr) (n c b off : Nat) (l : List Int) : Prop := Oz 1 B w ao n c b off (ints l)
theorem vi_len {w : World} {ao : Option Addr} {n c b off : Nat} {l : List Int} (h : Vi w ao n c b off l) : l.length = n := by have := h.len; rw [ints_len] at this; omega
theorem vz_small {sz : Nat} {w : World} {ao : Option Addr} {n c b off : Nat} {l : List Value} (h : Vz sz w ao n c b off l) : n ≤ 9223372036854775807 := by have h1 := h.le; have h2 := h.max; simp only [maxLen] at h2; omega
theorem vi_at {w : World} {ao : Option Addr} {n c b off : Nat} {l : List Int} (h : Vi w ao n c b off l) {i : Nat} {m : Int} (hi : l[i]? = some m) : ao = some ⟨b, off, none⟩ ∧ w.cell? ⟨b, off + i, none⟩ = some (.int .i64 m) := by
  have hl := vi_len h
  have hlt : i < l.length := (List.getElem?_eq_some_iff.1 hi).1
  exact ⟨h.addr (by have := h.le; omega), h.lies _ _ (ints_at hi)⟩
theorem vi_nth {w : World} {ao : Option Addr} {n c b off : Nat} {l : List Int} (h : Vi w ao n c b off l) {i : Nat} (hi : i < n) : w.cell? ⟨b, off + i, none⟩ = some (.int .i64 (nth l i)) :=
  (vi_at h (nth_get (by rw [vi_len h]; exact hi))).2
theorem vi_nil (w : World) (ao : Option Addr) : Vi w ao 0 0 0 0 [] := (oz_nil 1 0 w ao).v
theorem vi_drop {w : World} {n c b off : Nat} {l : List Int} (h : Vi w (some ⟨b, off, none⟩) n c b off l) {k : Nat} (hk : k ≤ n) : Vi w (some ⟨b, off + k, none⟩) (n - k) (c - k) b (off + k) (l.drop k) := by
  have hl := vi_len h
  have hle := h.le
  have hm := h.max
  refine ⟨by rw [ints_len, List.length_drop, hl], by omega, by omega, fun hc => rfl, ?_⟩
  rw [ints_drop]
  exact h.lies.drop _
theorem vi_take {w : World} {ao : Option Addr} {n c b off : Nat} {l : List Int} (h : Vi w ao n c b off l) {k : Nat} (hk : k ≤ n) : Vi w ao k c b off (l.take k) := by
  have hl := vi_len h
  refine ⟨by rw [ints_len, List.length_take]; omega, by have := h.le; omega, h.max, h.addr, ?_⟩
  rw [ints_take]
  exact h.lies.take _
theorem nth_drop (l : List Int) (k i : Nat) : nth (l.drop k) i = nth l (k + i) := by unfold nth; simp

theorem info3 : (Try.prog.info? 3).map (fun i => (i.zero, i.size, i.bytes)) = some (some (.int .i64 0), 1, 8) := by kernel_rfl
theorem info_parts {e : TypeId} {z : Value} {sz bytes : Nat} (h : (Try.prog.info? e).map (fun i => (i.zero, i.size, i.bytes)) = some (some z, sz, bytes)) : ∃ i, Try.prog.info? e = some i ∧ i.zero = some z ∧ i.size = sz ∧ i.bytes = bytes := by
  cases hi : Try.prog.info? e with
  | none => rw [hi] at h; simp at h
  | some i =>
    rw [hi] at h
    simp at h
    exact ⟨i, rfl, h.1, h.2.1, h.2.2⟩

/-- numbers in a new block -/
theorem oi_news {lo : Nat} {w : World} (hB : lo ≤ w.heap.size) (l : List Int) (hl : l.length ≤ 1000000) (t : TypeId) : Oi lo (w.alloc (.cells (ints l).toArray t)) (some ⟨w.heap.size, 0, none⟩) l.length l.length w.heap.size 0 l := by
  have hc : ∀ j, (w.alloc (.cells (ints l).toArray t)).cell? ⟨w.heap.size, j, none⟩ = (ints l)[j]? := fun j => by
    have := World.cell?_alloc_new w (ints l).toArray t j
    rw [this, List.getElem?_toArray]
  refine ⟨⟨by rw [ints_len], Nat.le_refl _, by simp only [maxLen]; omega, fun _ => rfl, fun j u hu => ?_⟩, fun _ => ⟨hB, by simp⟩, fun j hj => ?_⟩
  · rw [Nat.zero_add, hc]; exact hu
  · rw [Nat.zero_add, hc]
    exact ⟨by rw [List.getElem?_eq_getElem (by rw [ints_len]; exact hj)]; rfl, World.frozen?_alloc_new w _ _ j⟩
theorem src_ints {w : World} {ao : Option Addr} {n c b off : Nat} {l : List Int} (h : Vi w ao n c b off l) : Src Try.prog 1 22 (.slice ao n c) n (ints l) w := by
  cases ao with
  | none =>
    have hc : c = 0 := by
      rcases Nat.eq_zero_or_pos c with h0 | h0
      · exact h0
      · have := h.addr h0; cases this
    have hn : n = 0 := by have := h.le; omega
    subst hn
    have hl : l = [] := List.length_eq_zero_iff.1 (vi_len h)
    subst hl
    exact Src.ofNil _ Try.underlying22 c
  | some a =>
    refine Src.ofSlice _ Try.underlying22 a n c (ints l) h.len (fun j u hu => ?_) (one_ints l)
    have hj := (List.getElem?_eq_some_iff.1 hu).1
    have := h.addr (by have := h.le; have := h.len; rcases Nat.eq_zero_or_pos c with h0 | h0 <;> omega)
    cases this
    rw [Addr.add_lit]
    exact h.lies j u hu

/-- a list is answered, in memory of one's own -/
def RetI (B : Nat) (w : World) (e : Ending) (l : List Int) : Prop := ∃ ao n c b off, e = .returned (.slice ao n c) ∧ Oi B w ao n c b off l
theorem retI {B : Nat} {w : World} {e : Ending} {l : List Int} (h : RetI B w e l) : ∃ ao n c b off, e = .returned (.slice ao n c) ∧ Oi B w ao n c b off l := h

/-- what an append answers -/
def appA (r : Result Value) : Option Addr := match r with
  | .ok (.slice a _ _) _ => a
  | _ => none
def appC (r : Result Value) : Nat := match r with
  | .ok (.slice _ _ c) _ => c
  | _ => 0
def appW (r : Result Value) (w : World) : World := match r with
  | .ok _ w' => w'
  | _ => w
def apA (P : Program) (ts : Array TypeId) (ty : TypeId) (w : World) (v x : Value) : Option Addr := appA ((Builtin.append_ ts ty #[v, x]).run P w)
def apC (P : Program) (ts : Array TypeId) (ty : TypeId) (w : World) (v x : Value) : Nat := appC ((Builtin.append_ ts ty #[v, x]).run P w)
def apW (P : Program) (ts : Array TypeId) (ty : TypeId) (w : World) (v x : Value) : World := appW ((Builtin.append_ ts ty #[v, x]).run P w) w
/-- the append goes well -/
def Fine (P : Program) (ts : Array TypeId) (ty : TypeId) (w : World) (v x : Value) (n : Nat) : Prop := ∃ a c w', (Builtin.append_ ts ty #[v, x]).run P w = .ok (.slice a n c) w'
def lenV : Value → Nat
  | .slice _ n _ => n
  | _ => 0
theorem lenV_slice (a : Option Addr) (n c : Nat) : lenV (.slice a n c) = n := rfl
theorem run_app (ρ : Operand → Value) (dst : Option Tmp) (s x : Operand) (ts : Array TypeId) (ty : TypeId) (pos : String) (after : Array Edge) (guard : Option (Nat × Bool)) (w : World) (h : Fine Try.prog ts ty w (ρ s) (ρ x) (lenV (ρ s) + lenV (ρ x))) :
    (execOp ρ { dst, op := .call { callee := .builtin .append, args := #[s, x], argTypes := ts }, type := ty, pos, after, guard }).run Try.prog w =
      .ok (.value (.slice (apA Try.prog ts ty w (ρ s) (ρ x)) (lenV (ρ s) + lenV (ρ x)) (apC Try.prog ts ty w (ρ s) (ρ x)))) (apW Try.prog ts ty w (ρ s) (ρ x)) := by
  obtain ⟨a, c', w', e⟩ := h
  have e1 : execOp ρ { dst, op := .call { callee := .builtin .append, args := #[s, x], argTypes := ts }, type := ty, pos, after, guard } = (do pure (.value (← Builtin.append_ ts ty #[ρ s, ρ x]))) := by
    have e2 := BigFrame.execOp_builtin ρ dst .append #[s, x] ts ty pos after guard
    rw [e2, BigFrame.builtin_append]
    simp
  unfold apA apC apW
  rw [e1, Sem.run_bind, e]
  rfl
/-- .. in memory of one's own -/
structure App (sz B : Nat) (ts : Array TypeId) (ty : TypeId) (w : World) (ao : Option Addr) (n c b : Nat) (cs : List Value) (x : Value) (m : Nat) (news : List Value) (b' off' : Nat) : Prop where
  fine : Fine Try.prog ts ty w (.slice ao n c) x (n + m)
  own : Oz sz B (apW Try.prog ts ty w (.slice ao n c) x) (apA Try.prog ts ty w (.slice ao n c) x) (n + m) (apC Try.prog ts ty w (.slice ao n c) x) b' off' (cs ++ news)
  below : Below B w (apW Try.prog ts ty w (.slice ao n c) x)
  other : ∀ g, g < w.heap.size → (0 < c → g ≠ b) → (apW Try.prog ts ty w (.slice ao n c) x).heap[g]? = w.heap[g]?
  place : 0 < apC Try.prog ts ty w (.slice ao n c) x → (0 < c ∧ b' = b) ∨ w.heap.size ≤ b'
theorem app_own {sz B : Nat} {w : World} {ao : Option Addr} {n c b off : Nat} {cs : List Value} (h : Oz sz B w ao n c b off cs) (hB : B ≤ w.heap.size)
    (t tx ty e : TypeId) (z : Value) (bytes : Nat) (ht : Try.prog.underlying t = some (.slice e)) (hinfo : (Try.prog.info? e).map (fun i => (i.zero, i.size, i.bytes)) = some (some z, sz, bytes)) (hzs : z.cells.size = sz)
    (x : Value) (m : Nat) (news : List Value) (hs : Src Try.prog sz tx x m news w) (h63 : n + m ≤ maxLen) (hbytes : (n + m) * bytes ≤ 140737488355328) :
    ∃ b' off', App sz B #[t, tx] ty w ao n c b cs x m news b' off' := by
  obtain ⟨i, hi, hz0, hz1, hz2⟩ := info_parts hinfo
  obtain ⟨ao', c', b', off', w', hrun, r1, r2, r3, r4⟩ := run_append_own (P := Try.prog) h hB t tx ty e i z bytes ht hi hz0 hz1 hz2 hzs x m news hs h63 hbytes
  refine ⟨b', off', ⟨⟨_, _, _, hrun⟩, ?_, ?_, ?_, ?_⟩⟩ <;> (try unfold apW) <;> (try unfold apA) <;> (try unfold apC) <;> rw [hrun]
  · exact r1
  · exact r2
  · exact r3
  · exact r4
/-- numbers behind numbers -/
theorem app_ints {lo : Nat} {w : World} {ao : Option Addr} {n c b off : Nat} {l : List Int} (h : Oi lo w ao n c b off l) (hB : lo ≤ w.heap.size) {ao' : Option Addr} {m c' b' off' : Nat} {l' : List Int} (h' : Vi w ao' m c' b' off' l') (hn : n + m ≤ 1000000) :
    ∃ b'' off'', App 1 lo #[22, 22] 22 w ao n c b (ints l) (.slice ao' m c') m (ints l') b'' off'' :=
  app_own h hB 22 22 22 3 _ 8 Try.underlying22 info3 rfl _ m (ints l') (src_ints h') (by simp only [maxLen]; omega) (by omega)
theorem oi_app {B : Nat} {w : World} {ao : Option Addr} {n c b' off' : Nat} {l l' : List Int} (h : Oz 1 B w ao n c b' off' (ints l ++ ints l')) : Oi B w ao n c b' off' (l ++ l') := by
  rw [← ints_append] at h
  exact h
/-- so many noughts -/
theorem run_zeros (n : Nat) (hn : n ≤ 1000000) (w : World) : (Instr.makeSlice 22 (.int .i64 (n : Int)) (.int .i64 (n : Int))).run Try.prog w = .ok (.slice (some ⟨w.heap.size, 0, none⟩) n n) (w.alloc (.cells (ints (List.replicate n 0)).toArray 3)) := by
  obtain ⟨i, hi, hz0, hz1, hz2⟩ := info_parts info3
  have := run_make (P := Try.prog) w 22 3 i _ Try.underlying22 hi hz0 .i64 .i64 n n (by omega) (Int.le_refl _) (by rw [hz2]; omega) (by omega)
  rw [hz1] at this
  simp only [Int.toNat_natCast] at this
  rw [this]
  congr 3
  unfold madeCells
  apply Array.ext
  · simp [ints]
  · intro j h1 h2
    rw [Array.getElem_map]
    simp [ints, Value.cells]
    rw [Nat.mod_one]; rfl
end Go.Proofs.Ytageofpkfghllaa
