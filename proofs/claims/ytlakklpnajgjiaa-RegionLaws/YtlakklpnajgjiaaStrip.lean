/- A strip: what is made of it, an edge at a time. -/
import Derived.Test.YtlakklpnajgjiaaSeam
import Derived.Deep.RegionLaw
import Derived.BigRegion
namespace Go.Proofs.Ytlakklpnajgjiaa
open Num Go.RowKit
set_option linter.unusedVariables false

theorem info36 : (Try.prog.info? 36).map (fun i => (i.zero, i.size, i.bytes)) = some (some (.agg #[.int .i64 0, .int .i64 0, .int .i64 0, .int .i64 0]), 4, 32) := by kernel_rfl

section
variable {P : Program}
theorem step_append_own {ops : Array Oper} {o : Oper} {a : Act} {w : World} {K : Act → World → Prop} {Q : Exit → Act → World → Prop} {E : Prop}
    (hg : o.guard = none) (s x : Operand) (t tx : TypeId) (hop : o.op = Op.call { callee := Callee.builtin Builtin.append, args := #[s, x], argTypes := #[t, tx] })
    {sz B : Nat} {ao : Option Addr} {n c b off : Nat} {cs : List Value} (h : Oz sz B w ao n c b off cs) (hB : B ≤ w.heap.size)
    (e : TypeId) (i : TypeInfo) (z : Value) (bytes : Nat) (ht : P.underlying t = some (.slice e)) (hi : P.info? e = some i) (hz : i.zero = some z) (hsize : i.size = sz) (hby : i.bytes = bytes) (hzs : z.cells.size = sz)
    (hs : a.eval s = .slice ao n c) (xv : Value) (m : Nat) (news : List Value) (hx : a.eval x = xv) (hsrc : Src P sz tx xv m news w) (h63 : n + m ≤ maxLen) (hbytes : (n + m) * bytes ≤ 140737488355328)
    (hK : ∀ ao' c' b' off' w', Oz sz B w' ao' (n + m) c' b' off' (cs ++ news) → Below B w w' → (∀ g, g < w.heap.size → (0 < c → g ≠ b) → w'.heap[g]? = w.heap[g]?) → (0 < c' → (0 < c ∧ b' = b) ∨ w.heap.size ≤ b') → K (a.put o.dst (.slice ao' (n + m) c')) w') :
    if Region.wanted o (yielded ops a.tmps) = true then Oper.wp P o a w K Q else E := by
  have hw : Region.wanted o (yielded ops a.tmps) = true := by simp [Region.wanted, hg]
  rw [if_pos hw]
  obtain ⟨ao', c', b', off', w', hrun, r1, r2, r3, r4⟩ := run_append_own (P := P) h hB t tx o.type e i z bytes ht hi hz hsize hby hzs xv m news hsrc h63 hbytes
  unfold Oper.wp
  simp [execOp, hop, resolve, invoke, builtin, hs, hx, hrun, Result.andThen]
  exact hK ao' c' b' off' w' r1 r2 r3 r4
theorem wpList_append_mine (w : World) {ops : Array Oper} {rest : List Oper} {o : Oper} {a : Act} {Q : Exit → Act → World → Prop} (hgd : o.guard = none) (s x : Operand) (t tx : TypeId)
    (ho : o.op = .call { callee := .builtin .append, args := #[s, x], argTypes := #[t, tx] })
    {sz B : Nat} {ao : Option Addr} {n c b off : Nat} {cs : List Value} (h : Oz sz B w ao n c b off cs) (hB : B ≤ w.heap.size)
    (e : TypeId) (i : TypeInfo) (z : Value) (bytes : Nat) (ht : P.underlying t = some (.slice e)) (hi : P.info? e = some i) (hz : i.zero = some z) (hsize : i.size = sz) (hby : i.bytes = bytes) (hzs : z.cells.size = sz)
    (hs : a.eval s = .slice ao n c) (xv : Value) (m : Nat) (news : List Value) (hx : a.eval x = xv) (hsrc : Src P sz tx xv m news w) (h63 : n + m ≤ maxLen) (hbytes : (n + m) * bytes ≤ 140737488355328)
    (hK : ∀ ao' c' b' off' w', Oz sz B w' ao' (n + m) c' b' off' (cs ++ news) → Below B w w' → (∀ g, g < w.heap.size → (0 < c → g ≠ b) → w'.heap[g]? = w.heap[g]?) → (0 < c' → (0 < c ∧ b' = b) ∨ w.heap.size ≤ b') → wpList P ops Q rest (a.put o.dst (.slice ao' (n + m) c')) w') : wpList P ops Q (o :: rest) a w := by
  refine wpList_plain hgd fun K hK' => ?_
  obtain ⟨ao', c', b', off', w', hrun, r1, r2, r3, r4⟩ := run_append_own (P := P) h hB t tx o.type e i z bytes ht hi hz hsize hby hzs xv m news hsrc h63 hbytes
  unfold Oper.wp
  simp [execOp, ho, resolve, invoke, builtin, hs, hx, hrun, Result.andThen]
  exact hK' _ _ (hK ao' c' b' off' w' r1 r2 r3 r4)
end

theorem hid {p : Prop} (h : p) : Hid p := h
/-- what an append answers -/
def appA (r : Result Value) : Option Addr := match r with
  | .ok (.slice a _ _) _ => a
  | _ => none
def appC (r : Result Value) : Nat := match r with
  | .ok (.slice _ _ c) _ => c
  | _ => 0
def appW (r : Result Value) (w : World) : World := match r with
  | .ok _ w' => w'
  | _ => w
def apA (P : Program) (ts : Array TypeId) (ty : TypeId) (w : World) (v x : Value) : Option Addr := appA ((Builtin.append_ ts ty #[v, x]).run P w)
def apC (P : Program) (ts : Array TypeId) (ty : TypeId) (w : World) (v x : Value) : Nat := appC ((Builtin.append_ ts ty #[v, x]).run P w)
def apW (P : Program) (ts : Array TypeId) (ty : TypeId) (w : World) (v x : Value) : World := appW ((Builtin.append_ ts ty #[v, x]).run P w) w
/-- the append goes well -/
def Fine (P : Program) (ts : Array TypeId) (ty : TypeId) (w : World) (v x : Value) (n : Nat) : Prop := ∃ a c w', (Builtin.append_ ts ty #[v, x]).run P w = .ok (.slice a n c) w'
def lenV : Value → Nat
  | .slice _ n _ => n
  | _ => 0
theorem lenV_slice (a : Option Addr) (n c : Nat) : lenV (.slice a n c) = n := rfl
theorem run_app (ρ : Operand → Value) (dst : Option Tmp) (s x : Operand) (ts : Array TypeId) (ty : TypeId) (pos : String) (after : Array Edge) (guard : Option (Nat × Bool)) (w : World) (h : Fine Try.prog ts ty w (ρ s) (ρ x) (lenV (ρ s) + lenV (ρ x))) :
    (execOp ρ { dst, op := .call { callee := .builtin .append, args := #[s, x], argTypes := ts }, type := ty, pos, after, guard }).run Try.prog w =
      .ok (.value (.slice (apA Try.prog ts ty w (ρ s) (ρ x)) (lenV (ρ s) + lenV (ρ x)) (apC Try.prog ts ty w (ρ s) (ρ x)))) (apW Try.prog ts ty w (ρ s) (ρ x)) := by
  obtain ⟨a, c', w', e⟩ := h
  have e1 : execOp ρ { dst, op := .call { callee := .builtin .append, args := #[s, x], argTypes := ts }, type := ty, pos, after, guard } = (do pure (.value (← Builtin.append_ ts ty #[ρ s, ρ x]))) := by
    have e2 := BigFrame.execOp_builtin ρ dst .append #[s, x] ts ty pos after guard
    rw [e2, BigFrame.builtin_append]
    simp
  unfold apA apC apW
  rw [e1, Sem.run_bind, e]
  rfl
/-- .. in memory of one's own -/
structure App (sz B : Nat) (ts : Array TypeId) (ty : TypeId) (w : World) (ao : Option Addr) (n c b : Nat) (cs : List Value) (x : Value) (m : Nat) (news : List Value) (b' off' : Nat) : Prop where
  fine : Fine Try.prog ts ty w (.slice ao n c) x (n + m)
  own : Oz sz B (apW Try.prog ts ty w (.slice ao n c) x) (apA Try.prog ts ty w (.slice ao n c) x) (n + m) (apC Try.prog ts ty w (.slice ao n c) x) b' off' (cs ++ news)
  below : Below B w (apW Try.prog ts ty w (.slice ao n c) x)
  other : ∀ g, g < w.heap.size → (0 < c → g ≠ b) → (apW Try.prog ts ty w (.slice ao n c) x).heap[g]? = w.heap[g]?
  place : 0 < apC Try.prog ts ty w (.slice ao n c) x → (0 < c ∧ b' = b) ∨ w.heap.size ≤ b'
theorem app_own {sz B : Nat} {w : World} {ao : Option Addr} {n c b off : Nat} {cs : List Value} (h : Oz sz B w ao n c b off cs) (hB : B ≤ w.heap.size)
    (t tx ty e : TypeId) (z : Value) (bytes : Nat) (ht : Try.prog.underlying t = some (.slice e)) (hinfo : (Try.prog.info? e).map (fun i => (i.zero, i.size, i.bytes)) = some (some z, sz, bytes)) (hzs : z.cells.size = sz)
    (x : Value) (m : Nat) (news : List Value) (hs : Src Try.prog sz tx x m news w) (h63 : n + m ≤ maxLen) (hbytes : (n + m) * bytes ≤ 140737488355328) :
    ∃ b' off', App sz B #[t, tx] ty w ao n c b cs x m news b' off' := by
  obtain ⟨i, hi, hz0, hz1, hz2⟩ := info_parts hinfo
  obtain ⟨ao', c', b', off', w', hrun, r1, r2, r3, r4⟩ := run_append_own (P := Try.prog) h hB t tx ty e i z bytes ht hi hz0 hz1 hz2 hzs x m news hs h63 hbytes
  refine ⟨b', off', ⟨⟨_, _, _, hrun⟩, ?_, ?_, ?_, ?_⟩⟩ <;> (try unfold apW) <;> (try unfold apA) <;> (try unfold apC) <;> rw [hrun]
  · exact r1
  · exact r2
  · exact r3
  · exact r4

/-- the strip's five fields -/
structure Five (w : World) (k : Nat) (y0 y1 : Int) (v : Value) (o : Bool) (x0 : Int) : Prop where
  c0 : w.cell? ⟨k, 0, none⟩ = some (.int .i64 y0)
  c1 : w.cell? ⟨k, 1, none⟩ = some (.int .i64 y1)
  c2 : w.cell? ⟨k, 2, none⟩ = some v
  c3 : w.cell? ⟨k, 3, none⟩ = some (.bool o)
  c4 : w.cell? ⟨k, 4, none⟩ = some (.int .i64 x0)
  fz : ∀ j, w.frozen? ⟨k, j, none⟩ = false
theorem Five.block {w w' : World} {k : Nat} {y0 y1 : Int} {v : Value} {o : Bool} {x0 : Int} (h : Five w k y0 y1 v o x0) (e : w'.heap[k]? = w.heap[k]?) : Five w' k y0 y1 v o x0 := by
  have hc : ∀ j, w'.cell? ⟨k, j, none⟩ = w.cell? ⟨k, j, none⟩ := fun j => World.cell?_of_block (a := ⟨k, j, none⟩) e
  exact ⟨by rw [hc]; exact h.c0, by rw [hc]; exact h.c1, by rw [hc]; exact h.c2, by rw [hc]; exact h.c3, by rw [hc]; exact h.c4, fun j => by rw [World.frozen?_of_block (a := ⟨k, j, none⟩) e]; exact h.fz j⟩
theorem Five.lt {w : World} {k : Nat} {y0 y1 : Int} {v : Value} {o : Bool} {x0 : Int} (h : Five w k y0 y1 v o x0) : k < w.heap.size := World.block_lt_of_cell? w ⟨k, 0, none⟩ h.c0

/-- the strip as it stands -/
structure Sp (B : Nat) (w : World) (k : Nat) (y0 y1 : Int) (s : St) (ao : Option Addr) (n c b off : Nat) : Prop where
  five : Five w k y0 y1 (.slice ao n c) s.opn s.x0
  own : Ow B w ao n c b off s.made
  low : B ≤ k
  ne : 0 < c → b ≠ k
def SpE (B : Nat) (w : World) (k : Nat) (y0 y1 : Int) (s : St) : Prop := ∃ ao n c b off, Sp B w k y0 y1 s ao n c b off

attribute [local go_sem ↓] run_app
attribute [local go_sem] lenV_slice
theorem five_set {w : World} {k : Nat} {y0 y1 : Int} {v : Value} {o : Bool} {x0 : Int} (h : Five w k y0 y1 v o x0) (v' : Value) (o' : Bool) (x' : Int) :
    Five (((w.setCell ⟨k, 2, none⟩ v').setCell ⟨k, 3, none⟩ (.bool o')).setCell ⟨k, 4, none⟩ (.int .i64 x')) k y0 y1 v' o' x' := by
  obtain ⟨c0, c1, c2, c3, c4, fz⟩ := h
  have g3 : (w.setCell ⟨k, 2, none⟩ v').cell? ⟨k, 3, none⟩ = some (.bool o) := by rw [World.cell?_setCell_other _ _ _ _ (by simp)]; exact c3
  have g4 : ((w.setCell ⟨k, 2, none⟩ v').setCell ⟨k, 3, none⟩ (.bool o')).cell? ⟨k, 4, none⟩ = some (.int .i64 x0) := by rw [World.cell?_setCell_other _ _ _ _ (by simp), World.cell?_setCell_other _ _ _ _ (by simp)]; exact c4
  refine ⟨?_, ?_, ?_, ?_, World.cell?_setCell_same _ _ _ g4, fun j => ?_⟩
  · rw [World.cell?_setCell_other _ _ _ _ (by simp), World.cell?_setCell_other _ _ _ _ (by simp), World.cell?_setCell_other _ _ _ _ (by simp)]; exact c0
  · rw [World.cell?_setCell_other _ _ _ _ (by simp), World.cell?_setCell_other _ _ _ _ (by simp), World.cell?_setCell_other _ _ _ _ (by simp)]; exact c1
  · rw [World.cell?_setCell_other _ _ _ _ (by simp), World.cell?_setCell_other _ _ _ _ (by simp)]; exact World.cell?_setCell_same _ _ _ c2
  · rw [World.cell?_setCell_other _ _ _ _ (by simp)]; exact World.cell?_setCell_same _ _ _ g3
  · simp [World.frozen?_setCell, fz j]
theorem five_set2 {w : World} {k : Nat} {y0 y1 : Int} {v : Value} {o : Bool} {x0 : Int} (h : Five w k y0 y1 v o x0) (o' : Bool) (x' : Int) :
    Five ((w.setCell ⟨k, 3, none⟩ (.bool o')).setCell ⟨k, 4, none⟩ (.int .i64 x')) k y0 y1 v o' x' := by
  obtain ⟨c0, c1, c2, c3, c4, fz⟩ := h
  have g4 : (w.setCell ⟨k, 3, none⟩ (.bool o')).cell? ⟨k, 4, none⟩ = some (.int .i64 x0) := by rw [World.cell?_setCell_other _ _ _ _ (by simp)]; exact c4
  refine ⟨?_, ?_, ?_, ?_, World.cell?_setCell_same _ _ _ g4, fun j => ?_⟩
  · rw [World.cell?_setCell_other _ _ _ _ (by simp), World.cell?_setCell_other _ _ _ _ (by simp)]; exact c0
  · rw [World.cell?_setCell_other _ _ _ _ (by simp), World.cell?_setCell_other _ _ _ _ (by simp)]; exact c1
  · rw [World.cell?_setCell_other _ _ _ _ (by simp), World.cell?_setCell_other _ _ _ _ (by simp)]; exact c2
  · rw [World.cell?_setCell_other _ _ _ _ (by simp)]; exact World.cell?_setCell_same _ _ _ c3
  · simp [World.frozen?_setCell, fz j]

theorem srcR (w : World) (g : Nat) (r : R) (h : w.cell? ⟨g, 0, none⟩ = some (.int .i64 r.x0) ∧ w.cell? ⟨g, 1, none⟩ = some (.int .i64 r.y0) ∧ w.cell? ⟨g, 2, none⟩ = some (.int .i64 r.x1) ∧ w.cell? ⟨g, 3, none⟩ = some (.int .i64 r.y1)) :
    Src Try.prog 4 27 (.slice (some ⟨g, 0, none⟩) 1 1) 1 (cells4 r) w := by
  obtain ⟨h0, h1, h2, h3⟩ := h
  refine Src.ofSlice w Try.underlying27 ⟨g, 0, none⟩ 1 1 (cells4 r) rfl (fun j u hu => ?_) (fun u hu => ?_)
  · rw [Addr.add_lit, Nat.zero_add]
    match j, hu with
    | 0, hu => rw [h0, ← hu]; rfl
    | 1, hu => rw [h1, ← hu]; rfl
    | 2, hu => rw [h2, ← hu]; rfl
    | 3, hu => rw [h3, ← hu]; rfl
    | j + 4, hu => simp [cells4] at hu
  · simp only [cells4, List.mem_cons, List.not_mem_nil, or_false] at hu
    rcases hu with rfl | rfl | rfl | rfl <;> rfl

set_option maxRecDepth 100000 in
set_option maxHeartbeats 4000000 in
theorem pass_true (B : Nat) (w : World) (k : Nat) (y0 y1 x : Int) (made : List R) (x0 : Int) (h : SpE B w k y0 y1 ⟨made, true, x0⟩) (hlen : made.length < 4000000000000) :
    Calls Try.prog 74 #[.pointer (some ⟨k, 0, none⟩), .int .i64 x, .bool false] w fun e w' => e = .returned (.tuple #[]) ∧ SpE B w' k y0 y1 ⟨made ++ [⟨x0, y0, x, y1⟩], false, x⟩ ∧ Below B w w' := by
  obtain ⟨ao, n, c, b, off, h⟩ := h
  have hn : made.length = n := vw_len h.own.v
  rw [hn] at hlen
  have hW : Below w.heap.size w (w.alloc (.cells #[.int .i64 x0, .int .i64 y0, .int .i64 x, .int .i64 y1] 36)).drew := ((Below.refl _ _).alloc (Nat.le_refl _) _).drew
  have hB : B ≤ w.heap.size := by have := h.low; have := h.five.lt; omega
  obtain ⟨b', off', hA⟩ := app_own (h.own.below hW) (by simp; omega) 27 27 27 36 _ 32 Try.underlying27 info36 rfl (.slice (some ⟨w.heap.size, 0, none⟩) 1 1) 1 (cells4 ⟨x0, y0, x, y1⟩) (srcR _ _ _ (by simp)) (by simp only [maxLen]; omega) (by omega)
  have hF := hA.fine
  have h5 := (h.five.block (hW.block _ h.five.lt)).block (hA.other k (by have := h.five.lt; simp; omega) (fun hc => (h.ne hc).symm))
  obtain ⟨⟨c0, c1, c2, c3, c4, fz⟩, -, -, -⟩ := id h
  obtain ⟨d0, d1, d2, d3, d4, gz⟩ := id h5
  have HH : Hid (Sp B w k y0 y1 ⟨made, true, x0⟩ ao n c b off) := h
  have HA : Hid _ := hA
  have H5 : Hid _ := h5
  dsimp only at c0 c1 c2 c3 c4 d0 d1 d2 d3 d4
  have hk : k < w.heap.size := h.five.lt
  have hk' : ¬ k = w.heap.size := by omega
  clear hn h hA hW h5
  go_enter Try.func74, Try.ntmps74
  go_wp2
  go_region
  go_wp2
  go_end0
  have hA := HA.out
  have h5 := H5.out
  have h := HH.out
  have hne : 0 < apC Try.prog #[27, 27] 27 (w.alloc (.cells #[.int .i64 x0, .int .i64 y0, .int .i64 x, .int .i64 y1] 36)).drew (.slice ao n c) (.slice (some ⟨w.heap.size, 0, none⟩) 1 1) → b' ≠ k := fun hc => by
    rcases hA.place hc with ⟨hc', rfl⟩ | hge
    · exact h.ne hc'
    · simp at hge; omega
  refine ⟨rfl, ⟨_, _, _, b', off', five_set h5 _ _ _, ?_, h.low, hne⟩, ?_⟩
  · have e := hA.own.block (w := ((((apW Try.prog #[27, 27] 27 (w.alloc (.cells #[.int .i64 x0, .int .i64 y0, .int .i64 x, .int .i64 y1] 36)).drew (.slice ao n c) (.slice (some ⟨w.heap.size, 0, none⟩) 1 1)).setCell ⟨k, 2, none⟩ (.slice (apA Try.prog #[27, 27] 27 (w.alloc (.cells #[.int .i64 x0, .int .i64 y0, .int .i64 x, .int .i64 y1] 36)).drew (.slice ao n c) (.slice (some ⟨w.heap.size, 0, none⟩) 1 1)) (n + 1) (apC Try.prog #[27, 27] 27 (w.alloc (.cells #[.int .i64 x0, .int .i64 y0, .int .i64 x, .int .i64 y1] 36)).drew (.slice ao n c) (.slice (some ⟨w.heap.size, 0, none⟩) 1 1)))).setCell ⟨k, 3, none⟩ (.bool false)).setCell ⟨k, 4, none⟩ (.int .i64 x))) (by simp [World.setCell]) (fun hc => by
      rw [Below.heap_setCell _ _ _ _ (by exact hne hc), Below.heap_setCell _ _ _ _ (by exact hne hc), Below.heap_setCell _ _ _ _ (by exact hne hc)])
    rw [show flat made ++ cells4 ⟨x0, y0, x, y1⟩ = flat (made ++ [⟨x0, y0, x, y1⟩]) by rw [flat_append]; rfl] at e
    exact e
  · refine (((Below.trans ?_ hA.below).setCell (p := ⟨k, 2, none⟩) h.low _).setCell (p := ⟨k, 3, none⟩) h.low _).setCell (p := ⟨k, 4, none⟩) h.low _
    exact ((Below.refl _ _).alloc hB _).drew

theorem sp_block {B : Nat} {w : World} {k : Nat} {y0 y1 : Int} {s : St} {ao : Option Addr} {n c b off : Nat} (h : Sp B w k y0 y1 s ao n c b off) (o' : Bool) (x' : Int) :
    Sp B ((w.setCell ⟨k, 3, none⟩ (.bool o')).setCell ⟨k, 4, none⟩ (.int .i64 x')) k y0 y1 ⟨s.made, o', x'⟩ ao n c b off :=
  ⟨five_set2 h.five o' x', h.own.block (by simp [World.setCell]) (fun hc => by rw [Below.heap_setCell _ _ _ _ (by exact h.ne hc), Below.heap_setCell _ _ _ _ (by exact h.ne hc)]), h.low, h.ne⟩

set_option maxRecDepth 100000 in
theorem pass_any (B : Nat) (w : World) (k : Nat) (y0 y1 x : Int) (t : Bool) (s : St) (h : SpE B w k y0 y1 s) (hlen : s.made.length < 4000000000000) :
    Calls Try.prog 74 #[.pointer (some ⟨k, 0, none⟩), .int .i64 x, .bool t] w fun e w' => e = .returned (.tuple #[]) ∧ SpE B w' k y0 y1 (passS y0 y1 x t s) ∧ Below B w w' := by
  obtain ⟨made, opn, x0⟩ := s
  by_cases ht : t = opn
  · have E : Hid (passS y0 y1 x t ⟨made, opn, x0⟩ = ⟨made, opn, x0⟩) := by show passS _ _ _ _ _ = _; unfold passS; rw [if_pos ht]
    subst ht
    have H : Hid (SpE B w k y0 y1 ⟨made, t, x0⟩) := h
    obtain ⟨ao, n, c, b, off, ⟨c0, c1, c2, c3, c4, fz⟩, -, -, -⟩ := h
    dsimp only at c0 c1 c2 c3 c4
    cases t with
    | true =>
      go_enter Try.func74, Try.ntmps74
      go_wp2
      refine bodyPost_ret (v := .tuple #[]) (by simp [results, Try.results74, go_sem]) rfl ?_
      rw [E.out]
      exact ⟨rfl, H.out, Below.refl _ _⟩
    | false =>
      go_enter Try.func74, Try.ntmps74
      go_wp2
      refine bodyPost_ret (v := .tuple #[]) (by simp [results, Try.results74, go_sem]) rfl ?_
      rw [E.out]
      exact ⟨rfl, H.out, Below.refl _ _⟩
  · cases opn with
    | false =>
      obtain rfl : t = true := by simpa using ht
      have H : Hid (SpE B w k y0 y1 ⟨made, false, x0⟩) := h
      obtain ⟨ao, n, c, b, off, h⟩ := h
      have hS : Hid (Sp B w k y0 y1 ⟨made, false, x0⟩ ao n c b off) := h
      obtain ⟨⟨c0, c1, c2, c3, c4, fz⟩, -, -, -⟩ := h
      dsimp only at c0 c1 c2 c3 c4
      have E : Hid (passS y0 y1 x true ⟨made, false, x0⟩ = ⟨made, true, x⟩) := rfl
      go_enter Try.func74, Try.ntmps74
      go_wp2
      go_end0
      rw [E.out]
      exact ⟨rfl, ⟨_, _, _, _, _, sp_block hS.out true x⟩, ((Below.refl _ _).setCell (p := ⟨k, 3, none⟩) hS.out.low _).setCell (p := ⟨k, 4, none⟩) hS.out.low _⟩
    | true =>
      obtain rfl : t = false := by simpa using ht
      exact pass_true B w k y0 y1 x made x0 h hlen
end Go.Proofs.Ytlakklpnajgjiaa
