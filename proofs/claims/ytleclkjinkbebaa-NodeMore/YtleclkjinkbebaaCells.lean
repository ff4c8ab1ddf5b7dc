/- Cells in memory that are one's own: stored into, appended to; one block alone that is written. -/
import Derived.Test.YtleclkjinkbebaaMem
import Derived.Test.YtleclkjinkbebaaNum
import Derived.Laws.MakeOwn
import Derived.Deep.RegionLaw
import Derived.BigRegion
namespace Go.Proofs.Ytleclkjinkbebaa
open Num Go.RowKit
set_option linter.unusedVariables false
set_option linter.unusedSimpArgs false

theorem hid {p : Prop} (h : p) : Hid p := h
theorem below_drewN {B : Nat} {a w : World} (h : Below B a w) (n : Nat) : Below B a (w.drewN n) := ⟨h.os, h.tape, h.output, h.size, h.block⟩
theorem bcell {W w1 : World} (hb : Below W.heap.size W w1) : (∀ b o, b < W.heap.size → w1.cell? ⟨b, o, none⟩ = W.cell? ⟨b, o, none⟩) ∧ (∀ b o, b < W.heap.size → w1.frozen? ⟨b, o, none⟩ = W.frozen? ⟨b, o, none⟩) :=
  ⟨fun b o h => hb.cell (p := ⟨b, o, none⟩) h, fun b o h => hb.frozen (p := ⟨b, o, none⟩) h⟩
theorem via {w W1 w' : World} (h1 : Below w.heap.size w W1) (hb : Below W1.heap.size W1 w') : Below w.heap.size w w' := h1.trans (hb.mono h1.size)

theorem ret_int {k : IntKind} {a b : Int} (h : a = b) : Ending.returned (.int k a) = .returned (.int k b) := by rw [h]
theorem ret_bool {a b : Bool} (h : a = b) : Ending.returned (.bool a) = .returned (.bool b) := by rw [h]
theorem vz_small {sz : Nat} {w : World} {ao : Option Addr} {n c b off : Nat} {l : List Value} (h : Vz sz w ao n c b off l) : n ≤ 9223372036854775807 := by have h1 := h.le; have h2 := h.max; simp only [maxLen] at h2; omega

/-- one block alone is written -/
structure But (b : Nat) (w w' : World) : Prop where
  os : w'.os = w.os
  tape : w'.tape = w.tape
  output : w'.output = w.output
  size : w.heap.size ≤ w'.heap.size
  block : ∀ k, k < w.heap.size → k ≠ b → w'.heap[k]? = w.heap[k]?
theorem But.refl (b : Nat) (w : World) : But b w w := ⟨rfl, rfl, rfl, Nat.le_refl _, fun _ _ _ => rfl⟩
theorem But.trans {b : Nat} {x y z : World} (h : But b x y) (k : But b y z) : But b x z :=
  ⟨k.os.trans h.os, k.tape.trans h.tape, k.output.trans h.output, Nat.le_trans h.size k.size, fun i hi hb => (k.block i (Nat.lt_of_lt_of_le hi h.size) hb).trans (h.block i hi hb)⟩
theorem But.of {b : Nat} {w w' : World} (h : Below w.heap.size w w') : But b w w' := ⟨h.os, h.tape, h.output, h.size, fun k hk _ => h.block k hk⟩
theorem But.to {b : Nat} {w w' w'' : World} (h : But b w w') (k : Below w'.heap.size w' w'') : But b w w'' := h.trans (But.of k)
theorem But.low {b B : Nat} {w w' : World} (h : But b w w') (h1 : B ≤ b) (h2 : B ≤ w.heap.size) : Below B w w' := ⟨h.os, h.tape, h.output, h.size, fun k hk => h.block k (by omega) (by omega)⟩
theorem but_cells (b o : Nat) (vs : List Value) (w : World) : But b w (w.setCells b o vs) := by
  have h := below_setCells (B := 0) (b := b) (Nat.zero_le _) vs o w
  exact ⟨h.os, h.tape, h.output, h.size, fun k _ hk => heap_setCells b vs o w k hk⟩
theorem Vz.but {sz g : Nat} {W w : World} {ao : Option Addr} {n c b off : Nat} {cs : List Value} (h : Vz sz W ao n c b off cs) (hb : But g W w) (hg : b ≠ g) : Vz sz w ao n c b off cs := by
  refine ⟨h.len, h.le, h.max, h.addr, fun j u hu => ?_⟩
  have hj : j < cs.length := (List.getElem?_eq_some_iff.1 hu).1
  exact (World.cell?_of_block (a := ⟨b, off + j, none⟩) (hb.block b (h.lies.lt (by omega)) hg)).trans (h.lies j u hu)
theorem Oz.but {sz B g : Nat} {W w : World} {ao : Option Addr} {n c b off : Nat} {cs : List Value} (h : Oz sz B W ao n c b off cs) (hb : But g W w) (hg : 0 < c → b ≠ g) : Oz sz B w ao n c b off cs :=
  h.block hb.size fun hc => hb.block b (h.new hc).2 (hg hc)


theorem oz_set {sz B : Nat} {w : World} {ao : Option Addr} {n c b off : Nat} {cs : List Value} (h : Oz sz B w ao n c b off cs) {p : Nat} (hp : p < cs.length) (v : Value) : Oz sz B (w.setCell ⟨b, off + p, none⟩ v) ao n c b off (cs.set p v) := by
  obtain ⟨⟨h1, h2, h3, h4, h5⟩, h6, h7⟩ := h
  refine ⟨⟨by simpa using h1, h2, h3, h4, fun j u hu => ?_⟩, fun hc => ⟨(h6 hc).1, by have := (h6 hc).2; simpa [World.setCell] using this⟩, fun j hj => ?_⟩
  · rw [List.getElem?_set] at hu
    split at hu
    · rename_i e
      subst e
      first | rw [if_pos hp] at hu | skip
      rw [World.cell?_setCell_same _ _ _ (h5 p _ (List.getElem?_eq_getElem hp)), hu]
    · rename_i e
      rw [World.cell?_setCell_other _ _ _ _ (by first | (simp; omega) | (simp; done))]
      exact h5 j u hu
  · rw [World.frozen?_setCell]
    refine ⟨?_, (h7 j hj).2⟩
    by_cases e : j = p
    · subst e
      rw [World.cell?_setCell_same _ _ _ (h5 j _ (List.getElem?_eq_getElem hp))]; rfl
    · rw [World.cell?_setCell_other _ _ _ _ (by first | (simp; omega) | (simp; done))]
      exact (h7 j hj).1


theorem info_parts {e : TypeId} {z : Value} {sz bytes : Nat} (h : (Try.prog.info? e).map (fun i => (i.zero, i.size, i.bytes)) = some (some z, sz, bytes)) : ∃ i, Try.prog.info? e = some i ∧ i.zero = some z ∧ i.size = sz ∧ i.bytes = bytes := by
  cases hi : Try.prog.info? e with
  | none => rw [hi] at h; simp at h
  | some i =>
    rw [hi] at h
    simp at h
    exact ⟨i, rfl, h.1, h.2.1, h.2.2⟩


/-- cells in a new block -/
theorem oz_news {sz lo : Nat} {w : World} (hB : lo ≤ w.heap.size) (cs : List Value) (n : Nat) (hn : cs.length = n * sz) (hl : n ≤ 1000000) (t : TypeId) : Oz sz lo (w.alloc (.cells cs.toArray t)) (some ⟨w.heap.size, 0, none⟩) n n w.heap.size 0 cs := by
  have hc : ∀ j, (w.alloc (.cells cs.toArray t)).cell? ⟨w.heap.size, j, none⟩ = cs[j]? := fun j => by
    have := World.cell?_alloc_new w cs.toArray t j
    rw [this, List.getElem?_toArray]
  refine ⟨⟨hn, Nat.le_refl _, by simp only [maxLen]; omega, fun _ => rfl, fun j u hu => ?_⟩, fun _ => ⟨hB, by simp⟩, fun j hj => ?_⟩
  · rw [Nat.zero_add, hc]; exact hu
  · rw [Nat.zero_add, hc]
    exact ⟨by rw [List.getElem?_eq_getElem (by rw [hn]; exact hj)]; rfl, World.frozen?_alloc_new w _ _ j⟩
theorem src_of {sz : Nat} {t e : TypeId} {w : World} {ao : Option Addr} {n c b off : Nat} {cs : List Value} (h : Vz sz w ao n c b off cs) (hsz : 0 < sz) (ht : Try.prog.underlying t = some (.slice e)) (h1 : ∀ v ∈ cs, v.oneCell' = true) : Src Try.prog sz t (.slice ao n c) n cs w := by
  cases ao with
  | none =>
    have hc : c = 0 := by
      rcases Nat.eq_zero_or_pos c with h0 | h0
      · exact h0
      · have := h.addr h0; cases this
    have hn : n = 0 := by have := h.le; omega
    subst hn
    have hl : cs = [] := List.length_eq_zero_iff.1 (by have := h.len; omega)
    subst hl
    exact Src.ofNil _ ht c
  | some a =>
    refine Src.ofSlice _ ht a n c cs h.len (fun j u hu => ?_) h1
    have hj := (List.getElem?_eq_some_iff.1 hu).1
    have hn : 0 < n := by
      have := h.len
      rcases Nat.eq_zero_or_pos n with h0 | h0
      · subst h0; omega
      · exact h0
    have := h.addr (by have := h.le; omega)
    cases this
    rw [Addr.add_lit]
    exact h.lies j u hu

/-- what an append answers -/
def appA (r : Result Value) : Option Addr := match r with
  | .ok (.slice a _ _) _ => a
  | _ => none
def appC (r : Result Value) : Nat := match r with
  | .ok (.slice _ _ c) _ => c
  | _ => 0
def appW (r : Result Value) (w : World) : World := match r with
  | .ok _ w' => w'
  | _ => w
def apA (P : Program) (ts : Array TypeId) (ty : TypeId) (w : World) (v x : Value) : Option Addr := appA ((Builtin.append_ ts ty #[v, x]).run P w)
def apC (P : Program) (ts : Array TypeId) (ty : TypeId) (w : World) (v x : Value) : Nat := appC ((Builtin.append_ ts ty #[v, x]).run P w)
def apW (P : Program) (ts : Array TypeId) (ty : TypeId) (w : World) (v x : Value) : World := appW ((Builtin.append_ ts ty #[v, x]).run P w) w
/-- the append goes well -/
def Fine (P : Program) (ts : Array TypeId) (ty : TypeId) (w : World) (v x : Value) (n : Nat) : Prop := ∃ a c w', (Builtin.append_ ts ty #[v, x]).run P w = .ok (.slice a n c) w'
def lenV : Value → Nat
  | .slice _ n _ => n
  | _ => 0
theorem lenV_slice (a : Option Addr) (n c : Nat) : lenV (.slice a n c) = n := rfl
theorem run_app (ρ : Operand → Value) (dst : Option Tmp) (s x : Operand) (ts : Array TypeId) (ty : TypeId) (pos : String) (after : Array Edge) (guard : Option (Nat × Bool)) (w : World) (h : Fine Try.prog ts ty w (ρ s) (ρ x) (lenV (ρ s) + lenV (ρ x))) :
    (execOp ρ { dst, op := .call { callee := .builtin .append, args := #[s, x], argTypes := ts }, type := ty, pos, after, guard }).run Try.prog w =
      .ok (.value (.slice (apA Try.prog ts ty w (ρ s) (ρ x)) (lenV (ρ s) + lenV (ρ x)) (apC Try.prog ts ty w (ρ s) (ρ x)))) (apW Try.prog ts ty w (ρ s) (ρ x)) := by
  obtain ⟨a, c', w', e⟩ := h
  have e1 : execOp ρ { dst, op := .call { callee := .builtin .append, args := #[s, x], argTypes := ts }, type := ty, pos, after, guard } = (do pure (.value (← Builtin.append_ ts ty #[ρ s, ρ x]))) := by
    have e2 := BigFrame.execOp_builtin ρ dst .append #[s, x] ts ty pos after guard
    rw [e2, BigFrame.builtin_append]
    simp
  unfold apA apC apW
  rw [e1, Sem.run_bind, e]
  rfl
/-- .. in memory of one's own -/
structure App (sz B : Nat) (ts : Array TypeId) (ty : TypeId) (w : World) (ao : Option Addr) (n c b : Nat) (cs : List Value) (x : Value) (m : Nat) (news : List Value) (b' off' : Nat) : Prop where
  fine : Fine Try.prog ts ty w (.slice ao n c) x (n + m)
  own : Oz sz B (apW Try.prog ts ty w (.slice ao n c) x) (apA Try.prog ts ty w (.slice ao n c) x) (n + m) (apC Try.prog ts ty w (.slice ao n c) x) b' off' (cs ++ news)
  below : Below B w (apW Try.prog ts ty w (.slice ao n c) x)
  other : ∀ g, g < w.heap.size → (0 < c → g ≠ b) → (apW Try.prog ts ty w (.slice ao n c) x).heap[g]? = w.heap[g]?
  place : 0 < apC Try.prog ts ty w (.slice ao n c) x → (0 < c ∧ b' = b) ∨ w.heap.size ≤ b'
theorem app_own {sz B : Nat} {w : World} {ao : Option Addr} {n c b off : Nat} {cs : List Value} (h : Oz sz B w ao n c b off cs) (hB : B ≤ w.heap.size)
    (t tx ty e : TypeId) (z : Value) (bytes : Nat) (ht : Try.prog.underlying t = some (.slice e)) (hinfo : (Try.prog.info? e).map (fun i => (i.zero, i.size, i.bytes)) = some (some z, sz, bytes)) (hzs : z.cells.size = sz)
    (x : Value) (m : Nat) (news : List Value) (hs : Src Try.prog sz tx x m news w) (h63 : n + m ≤ maxLen) (hbytes : (n + m) * bytes ≤ 140737488355328) :
    ∃ b' off', App sz B #[t, tx] ty w ao n c b cs x m news b' off' := by
  obtain ⟨i, hi, hz0, hz1, hz2⟩ := info_parts hinfo
  obtain ⟨ao', c', b', off', w', hrun, r1, r2, r3, r4⟩ := run_append_own (P := Try.prog) h hB t tx ty e i z bytes ht hi hz0 hz1 hz2 hzs x m news hs h63 hbytes
  refine ⟨b', off', ⟨⟨_, _, _, hrun⟩, ?_, ?_, ?_, ?_⟩⟩ <;> (try unfold apW) <;> (try unfold apA) <;> (try unfold apC) <;> rw [hrun]
  · exact r1
  · exact r2
  · exact r3
  · exact r4
/-- what an append leaves alone -/
theorem App.cell {sz B : Nat} {ts : Array TypeId} {ty : TypeId} {w : World} {ao : Option Addr} {n c b : Nat} {cs : List Value} {x : Value} {m : Nat} {news : List Value} {b' off' : Nat} (h : App sz B ts ty w ao n c b cs x m news b' off') {k : Nat} (hk : k < w.heap.size) (hne : 0 < c → k ≠ b) (o : Nat) :
    (apW Try.prog ts ty w (.slice ao n c) x).cell? ⟨k, o, none⟩ = w.cell? ⟨k, o, none⟩ ∧ (apW Try.prog ts ty w (.slice ao n c) x).frozen? ⟨k, o, none⟩ = w.frozen? ⟨k, o, none⟩ :=
  ⟨World.cell?_of_block (a := ⟨k, o, none⟩) (h.other k hk hne), World.frozen?_of_block (a := ⟨k, o, none⟩) (h.other k hk hne)⟩
theorem cell_below {W w : World} (hb : Below W.heap.size W w) {k o : Nat} {v : Value} (h : W.cell? ⟨k, o, none⟩ = some v) : w.cell? ⟨k, o, none⟩ = some v := (hb.cell (p := ⟨k, o, none⟩) (World.block_lt_of_cell? _ _ h)).trans h
theorem oz_drew {sz B : Nat} {w : World} {ao : Option Addr} {n c b off : Nat} {cs : List Value} (h : Oz sz B w ao n c b off cs) : Oz sz B w.drew ao n c b off cs := h.block (Nat.le_refl _) fun _ => rfl
theorem but_drew {g : Nat} {W w : World} (h : But g W w) : But g W w.drew := ⟨h.os, h.tape, h.output, h.size, h.block⟩
theorem but_set {g : Nat} {W w : World} (h : But g W w) (o : Nat) (v : Value) : But g W (w.setCell ⟨g, o, none⟩ v) := h.trans (but_cells g o [v] w)
theorem but_set2 (w : World) (g o1 o2 : Nat) (v1 v2 : Value) : But g w ((w.setCell ⟨g, o1, none⟩ v1).setCell ⟨g, o2, none⟩ v2) := but_set (but_set (But.refl _ _) _ _) _ _
theorem cell_far (w : World) (v : Value) {b o1 o2 : Nat} {u : Value} (h : o2 ≠ o1) (hc : w.cell? ⟨b, o2, none⟩ = some u) : (w.setCell ⟨b, o1, none⟩ v).cell? ⟨b, o2, none⟩ = some u := (World.cell?_setCell_other _ _ _ _ (by simp <;> omega)).trans hc
theorem cell_else (w : World) (v : Value) {b b' o1 o2 : Nat} {u : Value} (h : b' ≠ b) (hc : w.cell? ⟨b', o2, none⟩ = some u) : (w.setCell ⟨b, o1, none⟩ v).cell? ⟨b', o2, none⟩ = some u := (World.cell?_setCell_other _ _ _ _ (by simp <;> omega)).trans hc
theorem oz_far {sz lo : Nat} {w : World} {ao : Option Addr} {n c b off : Nat} {l : List Value} (h : Oz sz lo w ao n c b off l) {k : Nat} (hk : 0 < c → b ≠ k) (o : Nat) (v : Value) : Oz sz lo (w.setCell ⟨k, o, none⟩ v) ao n c b off l :=
  h.block ((Below.refl 0 w).setCell (p := ⟨k, o, none⟩) (Nat.zero_le _) _).size fun hc => Below.heap_setCell _ _ _ _ (hk hc)
end Go.Proofs.Ytleclkjinkbebaa
