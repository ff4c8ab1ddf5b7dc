/- Rows of a buffer in memory: read, written, cleared, copied. -/
import Derived.Test.YtfgfgfmimejpdaaOwn
import Derived.Test.YtfgfgfmimejpdaaRow
namespace Go.Proofs.Ytfgfgfmimejpdaa
open Num Go.RowKit
set_option linter.unusedVariables false
set_option linter.unusedSimpArgs false

theorem has4_but {g : Nat} {w w' : World} {k : Nat} {v0 v1 v2 v3 : Value} (h : Rc.Has4 w k v0 v1 v2 v3) (hb : But g w w') (hg : k ≠ g) : Rc.Has4 w' k v0 v1 v2 v3 := by
  have hk : k < w.heap.size := World.block_lt_of_cell? w ⟨k, 0, none⟩ h.c0
  have e := hb.block k hk hg
  have hc : ∀ j, w'.cell? ⟨k, j, none⟩ = w.cell? ⟨k, j, none⟩ := fun j => World.cell?_of_block (a := ⟨k, j, none⟩) e
  exact ⟨by rw [hc]; exact h.c0, by rw [hc]; exact h.c1, by rw [hc]; exact h.c2, by rw [hc]; exact h.c3, fun j => by rw [World.frozen?_of_block (a := ⟨k, j, none⟩) e]; exact h.fz j⟩
theorem Rc.Has4.lt {w : World} {k : Nat} {v0 v1 v2 v3 : Value} (h : Rc.Has4 w k v0 v1 v2 v3) : k < w.heap.size := World.block_lt_of_cell? w ⟨k, 0, none⟩ h.c0

/-- a row within a box -/
structure In (B : R) (a b y : Int) : Prop where
  y0 : B.y0 ≤ y
  y1 : y < B.y1
  x0 : B.x0 ≤ a
  le : a ≤ b
  x1 : b ≤ B.x1

theorem ox_img_put {lo : Nat} {w : World} {ao : Option Addr} {n m g off : Nat} {B : R} {f : Int → Int → X} (h : Ox lo w ao n m g off (img B f)) {a b y : Int} (hi : In B a b y) (hh : Int → X) :
    Ox lo (w.setCells g (off + posN B a y * 4) (flat (line hh a b))) ao n m g off (img B (putG f y a b hh)) := by
  have hl := vx_len h.v
  rw [img_len] at hl
  have he := pos_end ⟨hi.y0, hi.y1⟩ hi.x0 hi.le hi.x1
  have := ox_put h (s := posN B a y) (news := line hh a b) (by rw [line_len]; omega)
  rwa [img_put f hh ⟨hi.y0, hi.y1⟩ hi.x0 hi.le hi.x1] at this
theorem ox_room {lo : Nat} {w : World} {ao : Option Addr} {n m g off : Nat} {B : R} {f : Int → Int → X} (h : Ox lo w ao n m g off (img B f)) {a b y : Int} (hi : In B a b y) :
    ∀ j, j < (b - a).toNat * 4 → (w.cell? ⟨g, off + posN B a y * 4 + j, none⟩).isSome = true ∧ w.frozen? ⟨g, off + posN B a y * 4 + j, none⟩ = false := by
  intro j hj
  have hl := vx_len h.v
  rw [img_len] at hl
  have hle := h.v.le
  have he := pos_end ⟨hi.y0, hi.y1⟩ hi.x0 hi.le hi.x1
  rw [Nat.add_assoc]
  exact h.room _ (by omega)
theorem vx_line {w : World} {ao : Option Addr} {n m g off : Nat} {B : R} {f : Int → Int → X} (h : Vx w ao n m g off (img B f)) {a b y : Int} (hi : In B a b y) :
    Lies w g (off + posN B a y * 4) (flat (line (fun x => f x y) a b)) := by
  have := (h.lies.drop (posN B a y * 4)).take ((b - a).toNat * 4)
  rwa [← flat_drop, ← flat_take, img_line f ⟨hi.y0, hi.y1⟩ hi.x0 hi.le hi.x1] at this
theorem line_ext {h h' : Int → X} {a b : Int} (e : ∀ x, a ≤ x → x < b → h x = h' x) : line h a b = line h' a b := by
  unfold line
  apply List.map_congr_left
  intro j hj
  rw [List.mem_range] at hj
  exact e _ (by omega) (by omega)

/-- a row of a right buffer -/
theorem row_of (B : R) (g off n m : Nat) (x0 x1 y : Int) (w : World) (ho : Ok B) (hn : n = wid B * hei B) (hn5 : n ≤ 5000) (hnm : n ≤ m) (hm : m ≤ maxLen) (hi : In B x0 x1 y) (hlt : x0 < x1) :
    Calls Try.prog 85 #[.agg #[.int .i64 B.x0, .int .i64 B.y0, .int .i64 B.x1, .int .i64 B.y1, .slice (some ⟨g, off, none⟩) n m], .int .i64 x0, .int .i64 x1, .int .i64 y] w fun e w' => e = .returned (.slice (some ⟨g, off + posN B x0 y * 4, none⟩) (x1 - x0).toNat (m - posN B x0 y)) ∧ Below w.heap.size w w' := by
  have he := pos_end ⟨hi.y0, hi.y1⟩ hi.x0 hi.le hi.x1
  obtain ⟨y0, y1, z0, z1, z2⟩ := hi
  obtain ⟨⟨a0, a1⟩, ⟨b0, b1⟩, ⟨c0, c1⟩, d0, d1⟩ := id ho
  have hp := pos_int (B := B) (x := x0) (y := y) z0 y0 (by omega)
  have hs : (y - B.y0) * (B.x1 - B.x0) = (((y - B.y0) * (B.x1 - B.x0)).toNat : Int) := by
    have := Int.mul_nonneg (a := y - B.y0) (b := B.x1 - B.x0) (by omega) (by omega)
    omega
  exact row_any B.x0 B.y0 B.x1 B.y1 g off n m x0 x1 y ((y - B.y0) * (B.x1 - B.x0)).toNat (posN B x0 y) (x1 - x0).toNat w ho (by omega) (by omega) (by omega) hs (by omega) (by omega) (by omega) (by omega) hnm hm (by omega)

/-- what a copy, a clear answer -/
def appV (r : Result Value) : Value := match r with
  | .ok v _ => v
  | _ => .bool false
def cpW (P : Program) (ts : Array TypeId) (ty : TypeId) (w : World) (v x : Value) : World := appW ((Builtin.copy_ ts ty #[v, x]).run P w) w
def cpV (P : Program) (ts : Array TypeId) (ty : TypeId) (w : World) (v x : Value) : Value := appV ((Builtin.copy_ ts ty #[v, x]).run P w)
def CFine (P : Program) (ts : Array TypeId) (ty : TypeId) (w : World) (v x : Value) : Prop := ∃ u w', (Builtin.copy_ ts ty #[v, x]).run P w = .ok u w'
def clW (P : Program) (ts : Array TypeId) (ty : TypeId) (w : World) (v : Value) : World := appW ((Builtin.clear_ ts ty #[v]).run P w) w
def clV (P : Program) (ts : Array TypeId) (ty : TypeId) (w : World) (v : Value) : Value := appV ((Builtin.clear_ ts ty #[v]).run P w)
def LFine (P : Program) (ts : Array TypeId) (ty : TypeId) (w : World) (v : Value) : Prop := ∃ u w', (Builtin.clear_ ts ty #[v]).run P w = .ok u w'
theorem run_cp (ρ : Operand → Value) (dst : Option Tmp) (s x : Operand) (ts : Array TypeId) (ty : TypeId) (pos : String) (after : Array Edge) (guard : Option (Nat × Bool)) (w : World) (h : CFine Try.prog ts ty w (ρ s) (ρ x)) :
    (execOp ρ { dst, op := .call { callee := .builtin .copy, args := #[s, x], argTypes := ts }, type := ty, pos, after, guard }).run Try.prog w =
      .ok (.value (cpV Try.prog ts ty w (ρ s) (ρ x))) (cpW Try.prog ts ty w (ρ s) (ρ x)) := by
  obtain ⟨u, w', e⟩ := h
  have e1 : execOp ρ { dst, op := .call { callee := .builtin .copy, args := #[s, x], argTypes := ts }, type := ty, pos, after, guard } = (do pure (.value (← Builtin.copy_ ts ty #[ρ s, ρ x]))) := by
    have e2 := BigFrame.execOp_builtin ρ dst .copy #[s, x] ts ty pos after guard
    rw [e2, BigFrame.builtin_copy]
    simp
  unfold cpV cpW
  rw [e1, Sem.run_bind, e]
  rfl
theorem run_cl (ρ : Operand → Value) (dst : Option Tmp) (s : Operand) (ts : Array TypeId) (ty : TypeId) (pos : String) (after : Array Edge) (guard : Option (Nat × Bool)) (w : World) (h : LFine Try.prog ts ty w (ρ s)) :
    (execOp ρ { dst, op := .call { callee := .builtin .clear, args := #[s], argTypes := ts }, type := ty, pos, after, guard }).run Try.prog w =
      .ok (.value (clV Try.prog ts ty w (ρ s))) (clW Try.prog ts ty w (ρ s)) := by
  obtain ⟨u, w', e⟩ := h
  have e1 : execOp ρ { dst, op := .call { callee := .builtin .clear, args := #[s], argTypes := ts }, type := ty, pos, after, guard } = (do pure (.value (← Builtin.clear_ ts ty #[ρ s]))) := by
    have e2 := BigFrame.execOp_builtin ρ dst .clear #[s] ts ty pos after guard
    rw [e2, BigFrame.builtin_clear]
    simp
  unfold clV clW
  rw [e1, Sem.run_bind, e]
  rfl
/-- a row copied over another -/
theorem cp_row {w : World} {ty : TypeId} {K c c' b o b' o' : Nat} {l : List X} (hl : l.length = K) (hsrc : Lies w b' o' (flat l)) (hr : ∀ j, j < K * 4 → (w.cell? ⟨b, o + j, none⟩).isSome = true ∧ w.frozen? ⟨b, o + j, none⟩ = false) :
    CFine Try.prog #[24, 24] ty w (.slice (some ⟨b, o, none⟩) K c) (.slice (some ⟨b', o', none⟩) K c') ∧ cpW Try.prog #[24, 24] ty w (.slice (some ⟨b, o, none⟩) K c) (.slice (some ⟨b', o', none⟩) K c') = w.setCells b o (flat l) := by
  have e := run_copy4 w ty K c c' b o b' o' l hl hsrc hr
  exact ⟨⟨_, _, e⟩, by unfold cpW; rw [e]; rfl⟩
theorem cl_row {w : World} {ty : TypeId} {ao : Option Addr} {K c b o : Nat} (ha : 0 < K → ao = some ⟨b, o, none⟩) (hr : ∀ j, j < K * 4 → (w.cell? ⟨b, o + j, none⟩).isSome = true ∧ w.frozen? ⟨b, o + j, none⟩ = false) :
    LFine Try.prog #[24] ty w (.slice ao K c) ∧ clW Try.prog #[24] ty w (.slice ao K c) = w.setCells b o (flat (none4 K)) := by
  have e := run_clear4 w ty ao K c b o ha hr
  exact ⟨⟨_, _, e⟩, by unfold clW; rw [e]; rfl⟩
end Go.Proofs.Ytfgfgfmimejpdaa
