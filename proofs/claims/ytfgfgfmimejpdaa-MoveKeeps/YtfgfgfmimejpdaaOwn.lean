/- Buffers of one's own: made, and appended to. -/
import Derived.Test.YtfgfgfmimejpdaaSmall
import Derived.Laws.MakeOwn
import Derived.Deep.RegionLaw
import Derived.BigRegion
namespace Go.Proofs.Ytfgfgfmimejpdaa
open Num Go.RowKit
set_option linter.unusedVariables false

theorem has4_set {w : World} {k : Nat} {v0 v1 v2 v3 : Value} (h : Rc.Has4 w k v0 v1 v2 v3) (u0 u1 u2 u3 : Value) : Rc.Has4 ((((w.setCell ⟨k, 0, none⟩ u0).setCell ⟨k, 1, none⟩ u1).setCell ⟨k, 2, none⟩ u2).setCell ⟨k, 3, none⟩ u3) k u0 u1 u2 u3 := by
  obtain ⟨s0, s1, s2, s3⟩ := Rc.set4 h.c0 h.c1 h.c2 h.c3 u0 u1 u2 u3
  exact ⟨s0, s1, s2, s3, fun o => by simp [World.frozen?_setCell, h.fz o]⟩
theorem set_below {w w' : World} (h : Below w.heap.size w w') (u0 u1 u2 u3 : Value) : Below w.heap.size w ((((w'.setCell ⟨w.heap.size, 0, none⟩ u0).setCell ⟨w.heap.size, 1, none⟩ u1).setCell ⟨w.heap.size, 2, none⟩ u2).setCell ⟨w.heap.size, 3, none⟩ u3) :=
  (((h.setCell (p := ⟨w.heap.size, 0, none⟩) (Nat.le_refl _) _).setCell (p := ⟨w.heap.size, 1, none⟩) (Nat.le_refl _) _).setCell (p := ⟨w.heap.size, 2, none⟩) (Nat.le_refl _) _).setCell (p := ⟨w.heap.size, 3, none⟩) (Nat.le_refl _) _

/-- what an append answers -/
def appA (r : Result Value) : Option Addr := match r with
  | .ok (.slice a _ _) _ => a
  | _ => none
def appC (r : Result Value) : Nat := match r with
  | .ok (.slice _ _ c) _ => c
  | _ => 0
def appW (r : Result Value) (w : World) : World := match r with
  | .ok _ w' => w'
  | _ => w
def apA (P : Program) (ts : Array TypeId) (ty : TypeId) (w : World) (v x : Value) : Option Addr := appA ((Builtin.append_ ts ty #[v, x]).run P w)
def apC (P : Program) (ts : Array TypeId) (ty : TypeId) (w : World) (v x : Value) : Nat := appC ((Builtin.append_ ts ty #[v, x]).run P w)
def apW (P : Program) (ts : Array TypeId) (ty : TypeId) (w : World) (v x : Value) : World := appW ((Builtin.append_ ts ty #[v, x]).run P w) w
/-- the append goes well -/
def Fine (P : Program) (ts : Array TypeId) (ty : TypeId) (w : World) (v x : Value) (n : Nat) : Prop := ∃ a c w', (Builtin.append_ ts ty #[v, x]).run P w = .ok (.slice a n c) w'
def lenV : Value → Nat
  | .slice _ n _ => n
  | _ => 0
theorem lenV_slice (a : Option Addr) (n c : Nat) : lenV (.slice a n c) = n := rfl
theorem run_app (ρ : Operand → Value) (dst : Option Tmp) (s x : Operand) (ts : Array TypeId) (ty : TypeId) (pos : String) (after : Array Edge) (guard : Option (Nat × Bool)) (w : World) (h : Fine Try.prog ts ty w (ρ s) (ρ x) (lenV (ρ s) + lenV (ρ x))) :
    (execOp ρ { dst, op := .call { callee := .builtin .append, args := #[s, x], argTypes := ts }, type := ty, pos, after, guard }).run Try.prog w =
      .ok (.value (.slice (apA Try.prog ts ty w (ρ s) (ρ x)) (lenV (ρ s) + lenV (ρ x)) (apC Try.prog ts ty w (ρ s) (ρ x)))) (apW Try.prog ts ty w (ρ s) (ρ x)) := by
  obtain ⟨a, c', w', e⟩ := h
  have e1 : execOp ρ { dst, op := .call { callee := .builtin .append, args := #[s, x], argTypes := ts }, type := ty, pos, after, guard } = (do pure (.value (← Builtin.append_ ts ty #[ρ s, ρ x]))) := by
    have e2 := BigFrame.execOp_builtin ρ dst .append #[s, x] ts ty pos after guard
    rw [e2, BigFrame.builtin_append]
    simp
  unfold apA apC apW
  rw [e1, Sem.run_bind, e]
  rfl
/-- .. in memory of one's own -/
structure App (sz B : Nat) (ts : Array TypeId) (ty : TypeId) (w : World) (ao : Option Addr) (n c b : Nat) (cs : List Value) (x : Value) (m : Nat) (news : List Value) (b' off' : Nat) : Prop where
  fine : Fine Try.prog ts ty w (.slice ao n c) x (n + m)
  own : Oz sz B (apW Try.prog ts ty w (.slice ao n c) x) (apA Try.prog ts ty w (.slice ao n c) x) (n + m) (apC Try.prog ts ty w (.slice ao n c) x) b' off' (cs ++ news)
  below : Below B w (apW Try.prog ts ty w (.slice ao n c) x)
  other : ∀ g, g < w.heap.size → (0 < c → g ≠ b) → (apW Try.prog ts ty w (.slice ao n c) x).heap[g]? = w.heap[g]?
  place : 0 < apC Try.prog ts ty w (.slice ao n c) x → (0 < c ∧ b' = b) ∨ w.heap.size ≤ b'
theorem app_own {sz B : Nat} {w : World} {ao : Option Addr} {n c b off : Nat} {cs : List Value} (h : Oz sz B w ao n c b off cs) (hB : B ≤ w.heap.size)
    (t tx ty e : TypeId) (z : Value) (bytes : Nat) (ht : Try.prog.underlying t = some (.slice e)) (hinfo : (Try.prog.info? e).map (fun i => (i.zero, i.size, i.bytes)) = some (some z, sz, bytes)) (hzs : z.cells.size = sz)
    (x : Value) (m : Nat) (news : List Value) (hs : Src Try.prog sz tx x m news w) (h63 : n + m ≤ maxLen) (hbytes : (n + m) * bytes ≤ 140737488355328) :
    ∃ b' off', App sz B #[t, tx] ty w ao n c b cs x m news b' off' := by
  obtain ⟨i, hi, hz0, hz1, hz2⟩ := info_parts hinfo
  obtain ⟨ao', c', b', off', w', hrun, r1, r2, r3, r4⟩ := run_append_own (P := Try.prog) h hB t tx ty e i z bytes ht hi hz0 hz1 hz2 hzs x m news hs h63 hbytes
  refine ⟨b', off', ⟨⟨_, _, _, hrun⟩, ?_, ?_, ?_, ?_⟩⟩ <;> (try unfold apW) <;> (try unfold apA) <;> (try unfold apC) <;> rw [hrun]
  · exact r1
  · exact r2
  · exact r3
  · exact r4


/-- a buffer is answered, its pixels in memory of one's own -/
def RetB (lo : Nat) (w : World) (e : Ending) (B : R) (l : List X) : Prop := ∃ ao n c g off, e = .returned (.agg #[.int .i64 B.x0, .int .i64 B.y0, .int .i64 B.x1, .int .i64 B.y1, .slice ao n c]) ∧ Ox lo w ao n c g off l
theorem retB {lo : Nat} {w : World} {e : Ending} {B : R} {l : List X} (h : RetB lo w e B l) : ∃ ao n c g off, e = .returned (.agg #[.int .i64 B.x0, .int .i64 B.y0, .int .i64 B.x1, .int .i64 B.y1, .slice ao n c]) ∧ Ox lo w ao n c g off l := h

theorem set5 {w' : World} {k : Nat} {p0 p1 p2 p3 p4 : Value} (h0 : w'.cell? ⟨k, 0, none⟩ = some p0) (h1 : w'.cell? ⟨k, 1, none⟩ = some p1) (h2 : w'.cell? ⟨k, 2, none⟩ = some p2) (h3 : w'.cell? ⟨k, 3, none⟩ = some p3) (h4 : w'.cell? ⟨k, 4, none⟩ = some p4) (v0 v1 v2 v3 v4 : Value) :
    (((((w'.setCell ⟨k, 0, none⟩ v0).setCell ⟨k, 1, none⟩ v1).setCell ⟨k, 2, none⟩ v2).setCell ⟨k, 3, none⟩ v3).setCell ⟨k, 4, none⟩ v4).cell? ⟨k, 0, none⟩ = some v0 ∧
    (((((w'.setCell ⟨k, 0, none⟩ v0).setCell ⟨k, 1, none⟩ v1).setCell ⟨k, 2, none⟩ v2).setCell ⟨k, 3, none⟩ v3).setCell ⟨k, 4, none⟩ v4).cell? ⟨k, 1, none⟩ = some v1 ∧
    (((((w'.setCell ⟨k, 0, none⟩ v0).setCell ⟨k, 1, none⟩ v1).setCell ⟨k, 2, none⟩ v2).setCell ⟨k, 3, none⟩ v3).setCell ⟨k, 4, none⟩ v4).cell? ⟨k, 2, none⟩ = some v2 ∧
    (((((w'.setCell ⟨k, 0, none⟩ v0).setCell ⟨k, 1, none⟩ v1).setCell ⟨k, 2, none⟩ v2).setCell ⟨k, 3, none⟩ v3).setCell ⟨k, 4, none⟩ v4).cell? ⟨k, 3, none⟩ = some v3 ∧
    (((((w'.setCell ⟨k, 0, none⟩ v0).setCell ⟨k, 1, none⟩ v1).setCell ⟨k, 2, none⟩ v2).setCell ⟨k, 3, none⟩ v3).setCell ⟨k, 4, none⟩ v4).cell? ⟨k, 4, none⟩ = some v4 := by
  obtain ⟨s0, s1, s2, s3⟩ := Rc.set4 h0 h1 h2 h3 v0 v1 v2 v3
  have g4 : ((((w'.setCell ⟨k, 0, none⟩ v0).setCell ⟨k, 1, none⟩ v1).setCell ⟨k, 2, none⟩ v2).setCell ⟨k, 3, none⟩ v3).cell? ⟨k, 4, none⟩ = some p4 := by
    rw [World.cell?_setCell_other _ _ _ _ (by simp), World.cell?_setCell_other _ _ _ _ (by simp), World.cell?_setCell_other _ _ _ _ (by simp), World.cell?_setCell_other _ _ _ _ (by simp)]; exact h4
  refine ⟨?_, ?_, ?_, ?_, World.cell?_setCell_same _ _ _ g4⟩
  · rw [World.cell?_setCell_other _ _ _ _ (by simp)]; exact s0
  · rw [World.cell?_setCell_other _ _ _ _ (by simp)]; exact s1
  · rw [World.cell?_setCell_other _ _ _ _ (by simp)]; exact s2
  · rw [World.cell?_setCell_other _ _ _ _ (by simp)]; exact s3
theorem but_set5 (w : World) (k : Nat) (v0 v1 v2 v3 v4 : Value) : But k w (((((w.setCell ⟨k, 0, none⟩ v0).setCell ⟨k, 1, none⟩ v1).setCell ⟨k, 2, none⟩ v2).setCell ⟨k, 3, none⟩ v3).setCell ⟨k, 4, none⟩ v4) :=
  but_cells k 0 [v0, v1, v2, v3, v4] w
theorem but_set4 (w : World) (k : Nat) (v0 v1 v2 v3 : Value) : But k w ((((w.setCell ⟨k, 0, none⟩ v0).setCell ⟨k, 1, none⟩ v1).setCell ⟨k, 2, none⟩ v2).setCell ⟨k, 3, none⟩ v3) :=
  but_cells k 0 [v0, v1, v2, v3] w
theorem has5_set4 {w : World} {k j : Nat} {B : R} {ao : Option Addr} {n c : Nat} (h : Has5 w k B ao n c) (hj : k ≠ j) (v0 v1 v2 v3 : Value) : Has5 ((((w.setCell ⟨j, 0, none⟩ v0).setCell ⟨j, 1, none⟩ v1).setCell ⟨j, 2, none⟩ v2).setCell ⟨j, 3, none⟩ v3) k B ao n c :=
  h.but (but_set4 w j v0 v1 v2 v3) hj
theorem has5_set {w : World} {k : Nat} {B : R} {ao : Option Addr} {n c : Nat} (h : Has5 w k B ao n c) (a b c' d : Int) (ao' : Option Addr) (n' m' : Nat) :
    Has5 (((((w.setCell ⟨k, 0, none⟩ (.int .i64 a)).setCell ⟨k, 1, none⟩ (.int .i64 b)).setCell ⟨k, 2, none⟩ (.int .i64 c')).setCell ⟨k, 3, none⟩ (.int .i64 d)).setCell ⟨k, 4, none⟩ (.slice ao' n' m')) k ⟨a, b, c', d⟩ ao' n' m' := by
  obtain ⟨s0, s1, s2, s3, s4⟩ := set5 h.c0 h.c1 h.c2 h.c3 h.c4 (.int .i64 a) (.int .i64 b) (.int .i64 c') (.int .i64 d) (.slice ao' n' m')
  exact ⟨s0, s1, s2, s3, s4, fun o => by simp [World.frozen?_setCell, h.fz o]⟩
theorem below_set5 {lo : Nat} {W w : World} (h : Below lo W w) {k : Nat} (hk : lo ≤ k) (v0 v1 v2 v3 v4 : Value) : Below lo W (((((w.setCell ⟨k, 0, none⟩ v0).setCell ⟨k, 1, none⟩ v1).setCell ⟨k, 2, none⟩ v2).setCell ⟨k, 3, none⟩ v3).setCell ⟨k, 4, none⟩ v4) :=
  ((((h.setCell (p := ⟨k, 0, none⟩) hk _).setCell (p := ⟨k, 1, none⟩) hk _).setCell (p := ⟨k, 2, none⟩) hk _).setCell (p := ⟨k, 3, none⟩) hk _).setCell (p := ⟨k, 4, none⟩) hk _

/-- pixels in a new block -/
theorem ox_news {lo : Nat} {w : World} (hB : lo ≤ w.heap.size) (l : List X) (hl : l.length ≤ 1000000) (t : TypeId) : Ox lo (w.alloc (.cells (flat l).toArray t)) (some ⟨w.heap.size, 0, none⟩) l.length l.length w.heap.size 0 l := by
  have hc : ∀ j, (w.alloc (.cells (flat l).toArray t)).cell? ⟨w.heap.size, j, none⟩ = (flat l)[j]? := fun j => by
    have := World.cell?_alloc_new w (flat l).toArray t j
    rw [this, List.getElem?_toArray]
  refine ⟨⟨by rw [flat_len], Nat.le_refl _, by simp only [maxLen]; omega, fun _ => rfl, fun j u hu => ?_⟩, fun _ => ⟨hB, by simp⟩, fun j hj => ?_⟩
  · rw [Nat.zero_add, hc]; exact hu
  · rw [Nat.zero_add, hc]
    exact ⟨by rw [List.getElem?_eq_getElem (by rw [flat_len]; exact hj)]; rfl, World.frozen?_alloc_new w _ _ j⟩
def zeroCs (n : Nat) : Array Value := (flat (none4 n)).toArray
theorem made_zero (n : Nat) : madeCells (#[.int .u8 0, .int .u8 0, .int .u8 0, .int .u8 0] : Array Value) (n * 4) = zeroCs n := by
  unfold zeroCs madeCells
  rw [none4_flat]
  apply Array.ext
  · simp
  · intro j h1 h2
    rw [Array.getElem_map]
    simp only [Array.getElem_range, List.getElem_toArray, List.getElem_replicate]
    exact zero_at j
theorem run_zeros (n : Nat) (hn : n ≤ 1000000) (w : World) : (Instr.makeSlice 24 (.int .i64 (n : Int)) (.int .i64 (n : Int))).run Try.prog w = .ok (.slice (some ⟨w.heap.size, 0, none⟩) n n) (w.alloc (.cells (zeroCs n) 28)) := by
  obtain ⟨i, hi, hz0, hz1, hz2⟩ := info_parts info28
  have := run_make (P := Try.prog) w 24 28 i _ Try.underlying24 hi hz0 .i64 .i64 n n (by omega) (Int.le_refl _) (by rw [hz2]; omega) (by omega)
  rw [hz1] at this
  simp only [Int.toNat_natCast] at this
  rw [this]
  congr 3
  exact made_zero n
theorem none4_len (n : Nat) : (none4 n).length = n := by unfold none4; simp
theorem img_none {B : R} {n : Nat} (h : n = wid B * hei B) : none4 n = img B (fun _ _ => noX) := by
  subst h
  apply List.ext_getElem?
  intro i
  by_cases hi : i < wid B * hei B
  · rw [img_get B _ hi]; unfold none4; rw [List.getElem?_replicate, if_pos hi]
  · rw [List.getElem?_eq_none (by rw [none4_len]; omega), List.getElem?_eq_none (by rw [img_len]; omega)]

theorem src_px {w : World} {ao : Option Addr} {n c b off : Nat} {l : List X} (h : Vx w ao n c b off l) : Src Try.prog 4 24 (.slice ao n c) n (flat l) w := by
  cases ao with
  | none =>
    have hc : c = 0 := by
      rcases Nat.eq_zero_or_pos c with h0 | h0
      · exact h0
      · have := h.addr h0; cases this
    have hn : n = 0 := by have := h.le; omega
    subst hn
    have hl : l = [] := List.length_eq_zero_iff.1 (vx_len h)
    subst hl
    exact Src.ofNil _ Try.underlying24 c
  | some a =>
    refine Src.ofSlice _ Try.underlying24 a n c (flat l) h.len (fun j u hu => ?_) (one_flat l)
    have hj := (List.getElem?_eq_some_iff.1 hu).1
    have := h.addr (by have := h.le; have := h.len; rcases Nat.eq_zero_or_pos c with h0 | h0 <;> omega)
    cases this
    rw [Addr.add_lit]
    exact h.lies j u hu
theorem app_px {lo : Nat} {w : World} {ao : Option Addr} {n c b off : Nat} {l : List X} (h : Ox lo w ao n c b off l) (hB : lo ≤ w.heap.size) (hn : n ≤ 1000000) (p : X) :
    ∃ b' off', App 4 lo #[24, 24] 24 (w.alloc (.cells #[.int .u8 p.c0, .int .u8 p.c1, .int .u8 p.c2, .int .u8 p.c3] 28)) ao n c b (flat l) (.slice (some ⟨w.heap.size, 0, none⟩) 1 1) 1 (cells4 p) b' off' := by
  have hs := (ox_news (w := w) (lo := 0) (Nat.zero_le _) [p] (by simp) 28).v
  have hsrc : Src Try.prog 4 24 (.slice (some ⟨w.heap.size, 0, none⟩) 1 1) 1 (flat [p]) (w.alloc (.cells #[.int .u8 p.c0, .int .u8 p.c1, .int .u8 p.c2, .int .u8 p.c3] 28)) := src_px hs
  exact app_own (h.below ((Below.refl _ _).alloc (Nat.le_refl _) _)) (by simp; omega) 24 24 24 28 _ 4 Try.underlying24 info28 rfl _ 1 (cells4 p) hsrc (by simp only [maxLen]; omega) (by omega)
theorem ox_app {lo : Nat} {w : World} {ao : Option Addr} {n c b' off' : Nat} {l : List X} {p : X} (h : Oz 4 lo w ao n c b' off' (flat l ++ cells4 p)) : Ox lo w ao n c b' off' (l ++ [p]) := by
  rw [show flat l ++ cells4 p = flat (l ++ [p]) by rw [flat_append]; rfl] at h
  exact h
end Go.Proofs.Ytfgfgfmimejpdaa
