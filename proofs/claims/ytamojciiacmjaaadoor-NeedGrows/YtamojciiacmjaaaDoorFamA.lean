import Derived.Test.YtamojciiacmjaaaDoorMemA
import Derived.Test.YtamojciiacmjaaaDoorPlainA
/- A filter that is held in a block of its own, with marks beside it. -/
namespace Go.Proofs.YtamojciiacmjaaaDoor
open Num Go.RowKit
set_option linter.unusedVariables false
set_option linter.unusedSimpArgs false

/-- a filter's two cells -/
structure Bx (w : World) (k : Nat) (ao : Option Addr) (n c : Nat) (out : Int) : Prop where
  c0 : w.cell? ⟨k, 0, none⟩ = some (.slice ao n c)
  c1 : w.cell? ⟨k, 1, none⟩ = some (.int .i64 out)
theorem Bx.below {W w : World} {k : Nat} {ao : Option Addr} {n c : Nat} {out : Int} (h : Bx W k ao n c out) (hb : Below W.heap.size W w) : Bx w k ao n c out := ⟨cell_below hb h.c0, cell_below hb h.c1⟩
theorem Bx.lt {W : World} {k : Nat} {ao : Option Addr} {n c : Nat} {out : Int} (h : Bx W k ao n c out) : k < W.heap.size := World.block_lt_of_cell? _ _ h.c0
theorem Bx.but {g : Nat} {W w : World} {k : Nat} {ao : Option Addr} {n c : Nat} {out : Int} (h : Bx W k ao n c out) (hb : But g W w) (hk : k ≠ g) : Bx w k ao n c out :=
  ⟨(World.cell?_of_block (a := ⟨k, 0, none⟩) (hb.block k h.lt hk)).trans h.c0, (World.cell?_of_block (a := ⟨k, 1, none⟩) (hb.block k h.lt hk)).trans h.c1⟩
theorem bx_new (w : World) (ao : Option Addr) (n c : Nat) (out : Int) (t : TypeId) : Bx (w.alloc (.cells #[.slice ao n c, .int .i64 out] t)) w.heap.size ao n c out :=
  ⟨World.cell?_alloc_new w _ _ 0, World.cell?_alloc_new w _ _ 1⟩
theorem cell_alloc {w : World} {k o : Nat} {v : Value} (x : Obj) (h : w.cell? ⟨k, o, none⟩ = some v) : (w.alloc x).cell? ⟨k, o, none⟩ = some v := cell_below ((Below.refl _ _).alloc (Nat.le_refl _) x) h

theorem ot_set0 {B : Nat} {w : World} {ao : Option Addr} {n c b : Nat} {l : List Bool} (h : Ot B w ao n c b 0 l) {i : Nat} (hi : i < n) (v : Bool) : Ot B (w.setCell ⟨b, i, none⟩ (.bool v)) ao n c b 0 (l.set i v) := by
  have := ot_set h hi v
  rw [Nat.zero_add] at this
  exact this
theorem ot_bt0 {B : Nat} {w : World} {ao : Option Addr} {n c b : Nat} {l : List Bool} (h : Ot B w ao n c b 0 l) {i : Nat} (hi : i < n) : w.cell? ⟨b, i, none⟩ = some (.bool (bt l i)) := by
  have := (vt_at h.v (bt_get (i := i) (by rw [vt_len h.v]; exact hi))).2
  rw [Nat.zero_add] at this
  exact this
theorem ot_fz0 {B : Nat} {w : World} {ao : Option Addr} {n c b : Nat} {l : List Bool} (h : Ot B w ao n c b 0 l) {i : Nat} (hi : i < n) : w.frozen? ⟨b, i, none⟩ = false := by
  have := ot_fz h hi
  rw [Nat.zero_add] at this
  exact this
/-- the filter in block k, the marks in block g -/
structure Mk (w : World) (k g : Nat) (ao : Option Addr) (n c : Nat) (out : Int) (D : List Bool) (wr : World) : Prop where
  low : Below w.heap.size w wr
  bx : Bx wr k ao n c out
  hk : w.heap.size ≤ k
  d : Ot w.heap.size wr (some ⟨g, 0, none⟩) n n g 0 D
  ne : k ≠ g
  hg : w.heap.size ≤ g
theorem mk_start (w : World) (ao : Option Addr) (n c : Nat) (out : Int) (hn : n ≤ 1000) :
    Mk w w.heap.size (w.heap.size + 1) ao n c out (List.replicate n false) ((w.alloc (.cells #[.slice ao n c, .int .i64 out] 36)).alloc (.cells (bools (List.replicate n false)).toArray 4)) := by
  have hd := ot_news (lo := w.heap.size) (w := w.alloc (.cells #[.slice ao n c, .int .i64 out] 36)) (by simp) (List.replicate n false) (by simp; omega) 4
  have e : (w.alloc (.cells #[.slice ao n c, .int .i64 out] 36)).heap.size = w.heap.size + 1 := by simp
  rw [e, List.length_replicate] at hd
  exact ⟨((Below.refl _ _).alloc (Nat.le_refl _) _).alloc (by simp) _, (bx_new w ao n c out 36).below ((Below.refl _ _).alloc (Nat.le_refl _) _), Nat.le_refl _, hd, by omega, by omega⟩
theorem Mk.below {w : World} {k g : Nat} {ao : Option Addr} {n c : Nat} {out : Int} {D : List Bool} {wr w' : World} (h : Mk w k g ao n c out D wr) (hb : Below wr.heap.size wr w') : Mk w k g ao n c out D w' :=
  ⟨via (w := w) h.low hb, h.bx.below hb, h.hk, h.d.below hb, h.ne, h.hg⟩
theorem mk_set {w : World} {k g : Nat} {ao : Option Addr} {n c : Nat} {out : Int} {D : List Bool} {wr : World} (h : Mk w k g ao n c out D wr) {i : Nat} (hi : i < n) (v : Bool) : Mk w k g ao n c out (D.set i v) (wr.setCell ⟨g, i, none⟩ (.bool v)) :=
  ⟨h.low.setCell (p := ⟨g, i, none⟩) h.hg _, h.bx.but (but_set (But.refl _ _) _ _) h.ne, h.hk, ot_set0 h.d hi v, h.ne, h.hg⟩
theorem Mk.len {w : World} {k g : Nat} {ao : Option Addr} {n c : Nat} {out : Int} {D : List Bool} {wr : World} (h : Mk w k g ao n c out D wr) : D.length = n := vt_len h.d.v
end Go.Proofs.YtamojciiacmjaaaDoor
/- Lists of lists of numbers in memory, each list in a block of its own. -/
namespace Go.Proofs.YtamojciiacmjaaaDoor
open Num Go.RowKit
set_option linter.unusedVariables false
set_option linter.unusedSimpArgs false

/-- a list: where it lies, and its numbers -/
structure Lv where
  ao : Option Addr
  n : Nat
  c : Nat
  b : Nat
  off : Nat
  l : List Int
def slV (v : Lv) : Value := .slice v.ao v.n v.c
def slL (V : List Lv) : List Value := V.map slV
theorem slL_len (V : List Lv) : (slL V).length = V.length * 1 := by unfold slL; simp
theorem slL_at {V : List Lv} {i : Nat} {v : Lv} (h : V[i]? = some v) : (slL V)[i]? = some (slV v) := by unfold slL; rw [List.getElem?_map, h]; rfl
theorem slL_app (V : List Lv) (v : Lv) : slL (V ++ [v]) = slL V ++ [slV v] := by unfold slL; simp
theorem slL_set (V : List Lv) (i : Nat) (v : Lv) : slL (V.set i v) = (slL V).set i (slV v) := by unfold slL; rw [List.map_set]
theorem one_slL (V : List Lv) : ∀ v ∈ slL V, v.oneCell' = true := by
  intro v hv
  unfold slL at hv
  obtain ⟨r, -, rfl⟩ := List.mem_map.1 hv
  rfl
/-- the lists, of one's own; no two in one block, none in that which holds them -/
structure Fs (B : Nat) (w : World) (ao : Option Addr) (n c g off : Nat) (V : List Lv) : Prop where
  z : Oz 1 B w ao n c g off (slL V)
  v : ∀ v, v ∈ V → Oi B w v.ao v.n v.c v.b v.off v.l
  ne : ∀ v, v ∈ V → 0 < v.c → v.b ≠ g
  apart : ∀ (i j : Nat) (u v : Lv), i ≠ j → V[i]? = some u → V[j]? = some v → 0 < u.c → 0 < v.c → u.b ≠ v.b
theorem Fs.below {B : Nat} {W w : World} {ao : Option Addr} {n c g off : Nat} {V : List Lv} (h : Fs B W ao n c g off V) (hb : Below W.heap.size W w) : Fs B w ao n c g off V := ⟨h.z.below hb, fun v hv => (h.v v hv).below hb, h.ne, h.apart⟩
theorem Fs.mono {B B' : Nat} {W : World} {ao : Option Addr} {n c g off : Nat} {V : List Lv} (h : Fs B W ao n c g off V) (hB : B' ≤ B) : Fs B' W ao n c g off V := ⟨h.z.mono hB, fun v hv => (h.v v hv).mono hB, h.ne, h.apart⟩
theorem fs_len {B : Nat} {w : World} {ao : Option Addr} {n c g off : Nat} {V : List Lv} (h : Fs B w ao n c g off V) : V.length = n := by have := h.z.v.len; rw [slL_len] at this; omega
theorem fs_at {B : Nat} {w : World} {ao : Option Addr} {n c g off : Nat} {V : List Lv} (h : Fs B w ao n c g off V) {i : Nat} {v : Lv} (hi : V[i]? = some v) :
    ao = some ⟨g, off, none⟩ ∧ w.cell? ⟨g, off + i, none⟩ = some (.slice v.ao v.n v.c) ∧ w.frozen? ⟨g, off + i, none⟩ = false ∧ Oi B w v.ao v.n v.c v.b v.off v.l := by
  have hl := fs_len h
  have hlt : i < V.length := (List.getElem?_eq_some_iff.1 hi).1
  exact ⟨h.z.v.addr (by have := h.z.v.le; omega), h.z.v.lies _ _ (slL_at hi), oz_fz h.z (by omega), h.v v (List.mem_of_getElem? hi)⟩
theorem fs_nil (B : Nat) (w : World) (ao : Option Addr) : Fs B w ao 0 0 0 0 [] := ⟨oz_nil 1 B w ao, fun v hv => (by cases hv), fun v hv => (by cases hv), fun i j u v _ h => by simp at h⟩
/-- so many lists that are nothing -/
def nilV : Lv := ⟨none, 0, 0, 0, 0, []⟩
theorem fs_news {B : Nat} {w : World} (hB : B ≤ w.heap.size) (n : Nat) (hn : n ≤ 1000000) : Fs B (w.alloc (.cells (nils n).toArray 22)) (some ⟨w.heap.size, 0, none⟩) n n w.heap.size 0 (List.replicate n nilV) := by
  have e : slL (List.replicate n nilV) = nils n := by unfold slL nils; rw [List.map_replicate]; rfl
  refine ⟨?_, fun v hv => ?_, fun v hv hc => ?_, fun i j u v _ hu hv hc => ?_⟩
  · rw [e]
    exact oz_news hB (nils n) n (by simp [nils]) hn 22
  · obtain ⟨-, rfl⟩ := List.mem_replicate.1 hv
    exact oi_nil _ _ _
  · obtain ⟨-, rfl⟩ := List.mem_replicate.1 hv
    exact absurd hc (by decide)
  · obtain ⟨-, rfl⟩ := List.mem_replicate.1 (List.mem_of_getElem? hu)
    exact absurd hc (by decide)
/-- lists are answered -/
def RetU (B : Nat) (w : World) (e : Ending) (U : List (List Nat)) : Prop := ∃ ao n c g off V, e = .returned (.slice ao n c) ∧ Fs B w ao n c g off V ∧ V.map Lv.l = U.map castL
theorem retU {B : Nat} {w : World} {e : Ending} {U : List (List Nat)} (h : RetU B w e U) : ∃ ao n c g off V, e = .returned (.slice ao n c) ∧ Fs B w ao n c g off V ∧ V.map Lv.l = U.map castL := h

/-- a number that is laid down, to be put behind others -/
theorem app28 {lo : Nat} {w : World} {ao : Option Addr} {n c b off : Nat} {l : List Int} (h : Oi lo w ao n c b off l) (hB : lo ≤ w.heap.size) (hn : n ≤ 100000) (v : Int) :
    ∃ b'' off'', App 1 lo #[22, 22] 22 (w.alloc (.cells #[.int .i64 v] 3)) ao n c b (ints l) (.slice (some ⟨w.heap.size, 0, none⟩) 1 1) 1 (ints [v]) b'' off'' :=
  app_lit Tryd.underlying22 (h.below ((Below.refl _ _).alloc (Nat.le_refl _) _)) (by simp; omega) hn (lit_new w v)
theorem app28_fine {lo : Nat} {w : World} {ao : Option Addr} {n c b : Nat} {l : List Int} {g : Nat} {v : Int} {b'' off'' : Nat} (h : App 1 lo #[22, 22] 22 w ao n c b (ints l) (.slice (some ⟨g, 0, none⟩) 1 1) 1 (ints [v]) b'' off'') :
    Fine Tryd.prog #[22, 22] 22 w (.slice ao n c) (.slice (some ⟨g, 0, none⟩) 1 1) (n + 1) := h.fine
theorem lit_slice {w : World} (v : Lv) : Src Tryd.prog 1 80 (.slice (some ⟨w.heap.size, 0, none⟩) 1 1) 1 [slV v] (w.alloc (.cells #[slV v] 22)) :=
  src_of (oz_news (w := w) (lo := 0) (Nat.zero_le _) [slV v] 1 (by simp) (by decide) 22).v (by decide) Tryd.underlying80 (one_slL [v])
/-- a list behind lists -/
theorem app32 {lo : Nat} {w : World} {ao : Option Addr} {n c g off : Nat} {V : List Lv} (h : Fs lo w ao n c g off V) (hB : lo ≤ w.heap.size) (hn : n ≤ 100000) (v : Lv) :
    ∃ b'' off'', App 1 lo #[80, 80] 80 (w.alloc (.cells #[slV v] 22)) ao n c g (slL V) (.slice (some ⟨w.heap.size, 0, none⟩) 1 1) 1 [slV v] b'' off'' :=
  app_own (h.z.below ((Below.refl _ _).alloc (Nat.le_refl _) _)) (by simp; omega) 80 80 80 22 _ 24 Tryd.underlying80 info22 rfl _ 1 [slV v] (lit_slice v) (by simp only [maxLen]; omega) (by omega)
theorem app32_fine {lo : Nat} {w : World} {ao : Option Addr} {n c g : Nat} {V : List Lv} {b0 : Nat} {a : Option Addr} {m k : Nat} {b'' off'' : Nat} (h : App 1 lo #[80, 80] 80 w ao n c g (slL V) (.slice (some ⟨b0, 0, none⟩) 1 1) 1 [.slice a m k] b'' off'') :
    Fine Tryd.prog #[80, 80] 80 w (.slice ao n c) (.slice (some ⟨b0, 0, none⟩) 1 1) (n + 1) := h.fine
/-- what is owned, and lies in another block, stays -/
theorem oi_app_else {lo sz B : Nat} {ts : Array TypeId} {ty : TypeId} {w : World} {ao : Option Addr} {n c b : Nat} {cs : List Value} {x : Value} {m : Nat} {news : List Value} {b' off' : Nat} (h : App sz B ts ty w ao n c b cs x m news b' off')
    {ao2 : Option Addr} {n2 c2 b2 off2 sz2 : Nat} {l2 : List Value} (h2 : Oz sz2 lo w ao2 n2 c2 b2 off2 l2) (hne : 0 < c2 → 0 < c → b2 ≠ b) : Oz sz2 lo (apW Tryd.prog ts ty w (.slice ao n c) x) ao2 n2 c2 b2 off2 l2 :=
  h2.block h.below.size fun hc => h.other b2 (h2.new hc).2 (fun hc1 => hne hc hc1)
theorem fs_app {lo : Nat} {w : World} {ao : Option Addr} {n c g off : Nat} {V : List Lv} (h : Fs lo w ao n c g off V) {v : Lv} (hv : Oi lo w v.ao v.n v.c v.b v.off v.l) (hne : 0 < v.c → 0 < c → v.b ≠ g) (hnew : ∀ u, u ∈ V → 0 < u.c → 0 < v.c → u.b ≠ v.b)
    {b'' off'' : Nat} (hA : App 1 lo #[80, 80] 80 (w.alloc (.cells #[slV v] 22)) ao n c g (slL V) (.slice (some ⟨w.heap.size, 0, none⟩) 1 1) 1 [slV v] b'' off'') :
    Fs lo (apW Tryd.prog #[80, 80] 80 (w.alloc (.cells #[slV v] 22)) (.slice ao n c) (.slice (some ⟨w.heap.size, 0, none⟩) 1 1)) (apA Tryd.prog #[80, 80] 80 (w.alloc (.cells #[slV v] 22)) (.slice ao n c) (.slice (some ⟨w.heap.size, 0, none⟩) 1 1)) (n + 1)
      (apC Tryd.prog #[80, 80] 80 (w.alloc (.cells #[slV v] 22)) (.slice ao n c) (.slice (some ⟨w.heap.size, 0, none⟩) 1 1)) b'' off'' (V ++ [v]) := by
  have hb : Below w.heap.size w (w.alloc (.cells #[slV v] 22)) := (Below.refl _ _).alloc (Nat.le_refl _) _
  have hz : (w.alloc (.cells #[slV v] 22)).heap.size = w.heap.size + 1 := by simp
  have key : ∀ u, (u ∈ V ∨ u = v) → Oi lo w u.ao u.n u.c u.b u.off u.l ∧ (0 < u.c → 0 < c → u.b ≠ g) := fun u hu => by
    rcases hu with hu | rfl
    · exact ⟨h.v u hu, fun h1 _ => h.ne u hu h1⟩
    · exact ⟨hv, hne⟩
  have old : c = 0 → 0 < apC Tryd.prog #[80, 80] 80 (w.alloc (.cells #[slV v] 22)) (.slice ao n c) (.slice (some ⟨w.heap.size, 0, none⟩) 1 1) → w.heap.size + 1 ≤ b'' := fun h0 hc => by
    rcases hA.place hc with h1 | h1
    · omega
    · omega
  refine ⟨?_, fun u hu => ?_, fun u hu hc => ?_, fun i j u u' hij hu hu' hc hc' => ?_⟩
  · rw [slL_app]; exact hA.own
  · have hu' : u ∈ V ∨ u = v := by simpa using hu
    obtain ⟨k1, k2⟩ := key u hu'
    exact oi_app_else hA (k1.below hb) k2
  · have hu' : u ∈ V ∨ u = v := by simpa using hu
    obtain ⟨k1, k2⟩ := key u hu'
    have hlt := (k1.new hc).2
    have hcap : 0 < apC Tryd.prog #[80, 80] 80 (w.alloc (.cells #[slV v] 22)) (.slice ao n c) (.slice (some ⟨w.heap.size, 0, none⟩) 1 1) := by have := hA.own.v.le; omega
    rcases hA.place hcap with ⟨h1, h2⟩ | h1
    · rw [h2]; exact k2 hc h1
    · omega
  · have hlV : ∀ (i : Nat) (u : Lv), (V ++ [v])[i]? = some u → (V[i]? = some u) ∨ (i = V.length ∧ u = v) := fun i u hu => by
      by_cases hi : i < V.length
      · rw [List.getElem?_append_left hi] at hu; exact Or.inl hu
      · rw [List.getElem?_append_right (by omega)] at hu
        have h1 : i - V.length < 1 := by
          have := (List.getElem?_eq_some_iff.1 hu).1
          simpa using this
        have h2 : i = V.length := by omega
        subst h2
        simp at hu
        exact Or.inr ⟨rfl, hu.symm⟩
    rcases hlV i u hu with h1 | ⟨h1, rfl⟩
    · rcases hlV j u' hu' with h2 | ⟨h2, rfl⟩
      · exact h.apart i j u u' hij h1 h2 hc hc'
      · exact hnew u (List.mem_of_getElem? h1) hc hc'
    · rcases hlV j u' hu' with h2 | ⟨h2, rfl⟩
      · exact (hnew u' (List.mem_of_getElem? h2) hc' hc).symm
      · omega
/-- a list of lists grows by a number -/
theorem fs_grow {lo : Nat} {w : World} {n c g : Nat} {V : List Lv} (h : Fs lo w (some ⟨g, 0, none⟩) n c g 0 V) {i : Nat} {u : Lv} (hi : V[i]? = some u) (x : Int)
    {b'' off'' : Nat} (hA : App 1 lo #[22, 22] 22 (w.alloc (.cells #[.int .i64 x] 3)) u.ao u.n u.c u.b (ints u.l) (.slice (some ⟨w.heap.size, 0, none⟩) 1 1) 1 (ints [x]) b'' off'') :
    (apW Tryd.prog #[22, 22] 22 (w.alloc (.cells #[.int .i64 x] 3)) (.slice u.ao u.n u.c) (.slice (some ⟨w.heap.size, 0, none⟩) 1 1)).cell? ⟨g, i, none⟩ = some (.slice u.ao u.n u.c) ∧
    (apW Tryd.prog #[22, 22] 22 (w.alloc (.cells #[.int .i64 x] 3)) (.slice u.ao u.n u.c) (.slice (some ⟨w.heap.size, 0, none⟩) 1 1)).frozen? ⟨g, i, none⟩ = false ∧
    Fs lo ((apW Tryd.prog #[22, 22] 22 (w.alloc (.cells #[.int .i64 x] 3)) (.slice u.ao u.n u.c) (.slice (some ⟨w.heap.size, 0, none⟩) 1 1)).setCell ⟨g, i, none⟩ (.slice (apA Tryd.prog #[22, 22] 22 (w.alloc (.cells #[.int .i64 x] 3)) (.slice u.ao u.n u.c) (.slice (some ⟨w.heap.size, 0, none⟩) 1 1)) (u.n + 1) (apC Tryd.prog #[22, 22] 22 (w.alloc (.cells #[.int .i64 x] 3)) (.slice u.ao u.n u.c) (.slice (some ⟨w.heap.size, 0, none⟩) 1 1)))) (some ⟨g, 0, none⟩) n c g 0
      (V.set i ⟨apA Tryd.prog #[22, 22] 22 (w.alloc (.cells #[.int .i64 x] 3)) (.slice u.ao u.n u.c) (.slice (some ⟨w.heap.size, 0, none⟩) 1 1), u.n + 1, apC Tryd.prog #[22, 22] 22 (w.alloc (.cells #[.int .i64 x] 3)) (.slice u.ao u.n u.c) (.slice (some ⟨w.heap.size, 0, none⟩) 1 1), b'', off'', u.l ++ [x]⟩) := by
  have hb : Below w.heap.size w (w.alloc (.cells #[.int .i64 x] 3)) := (Below.refl _ _).alloc (Nat.le_refl _) _
  have hz : (w.alloc (.cells #[.int .i64 x] 3)).heap.size = w.heap.size + 1 := by simp
  have hu := List.mem_of_getElem? hi
  have hil : i < V.length := (List.getElem?_eq_some_iff.1 hi).1
  have hn := fs_len h
  have hne := h.ne u hu
  have hcg : 0 < c := by have := h.z.v.le; omega
  have hgl := (h.z.new hcg).2
  obtain ⟨-, c0, f0, -⟩ := fs_at h hi
  rw [Nat.zero_add] at c0 f0
  obtain ⟨d0, d1⟩ := hA.cell (k := g) (by omega) (fun hc => (hne hc).symm) i
  rw [cell_below hb c0] at d0
  rw [(hb.frozen (p := ⟨g, i, none⟩) hgl).trans f0] at d1
  refine ⟨d0, d1, ?_⟩
  have hZ : Oz 1 lo (apW Tryd.prog #[22, 22] 22 (w.alloc (.cells #[.int .i64 x] 3)) (.slice u.ao u.n u.c) (.slice (some ⟨w.heap.size, 0, none⟩) 1 1)) (some ⟨g, 0, none⟩) n c g 0 (slL V) := oi_app_else hA (h.z.below hb) (fun _ hc => (hne hc).symm)
  have hO := hA.own
  have hpl := hA.place
  have hoth : ∀ v, v ∈ V → (0 < v.c → 0 < u.c → v.b ≠ u.b) → Oi lo (apW Tryd.prog #[22, 22] 22 (w.alloc (.cells #[.int .i64 x] 3)) (.slice u.ao u.n u.c) (.slice (some ⟨w.heap.size, 0, none⟩) 1 1)) v.ao v.n v.c v.b v.off v.l := fun v hv hne => oi_app_else hA ((h.v v hv).below hb) hne
  generalize apW Tryd.prog #[22, 22] 22 (w.alloc (.cells #[.int .i64 x] 3)) (.slice u.ao u.n u.c) (.slice (some ⟨w.heap.size, 0, none⟩) 1 1) = W2 at *
  generalize apA Tryd.prog #[22, 22] 22 (w.alloc (.cells #[.int .i64 x] 3)) (.slice u.ao u.n u.c) (.slice (some ⟨w.heap.size, 0, none⟩) 1 1) = a2 at *
  generalize apC Tryd.prog #[22, 22] 22 (w.alloc (.cells #[.int .i64 x] 3)) (.slice u.ao u.n u.c) (.slice (some ⟨w.heap.size, 0, none⟩) 1 1) = c2 at *
  have hbg : 0 < c2 → b'' ≠ g := fun hc => by
    rcases hpl hc with ⟨h1, h2⟩ | h1
    · rw [h2]; exact hne h1
    · omega
  have hbv : ∀ (j : Nat) (v : Lv), j ≠ i → V[j]? = some v → 0 < v.c → 0 < c2 → v.b ≠ b'' := fun j v hj hv hc hc2 => by
    rcases hpl hc2 with ⟨h1, h2⟩ | h1
    · rw [h2]; exact h.apart j i v u hj hv hi hc h1
    · have := ((h.v v (List.mem_of_getElem? hv)).new hc).2
      omega
  have hget : ∀ (j : Nat) (v : Lv), (V.set i ⟨a2, u.n + 1, c2, b'', off'', u.l ++ [x]⟩)[j]? = some v → (j ≠ i ∧ V[j]? = some v) ∨ (j = i ∧ v = ⟨a2, u.n + 1, c2, b'', off'', u.l ++ [x]⟩) := fun j v hv => by
    by_cases e : j = i
    · subst e
      rw [List.getElem?_set_self hil] at hv
      exact Or.inr ⟨rfl, (Option.some.inj hv).symm⟩
    · rw [List.getElem?_set_ne (Ne.symm e)] at hv
      exact Or.inl ⟨e, hv⟩
  refine ⟨?_, fun v hv => ?_, fun v hv hc => ?_, fun j k v v' hjk hv hv' hc hc' => ?_⟩
  · rw [slL_set]
    have := oz_set hZ (p := i) (by rw [slL_len]; omega) (.slice a2 (u.n + 1) c2)
    rw [Nat.zero_add] at this
    exact this
  · obtain ⟨j, hj, rfl⟩ := List.getElem_of_mem hv
    rcases hget j _ (List.getElem?_eq_getElem hj) with ⟨h1, h2⟩ | ⟨h1, h2⟩
    · exact oz_far (hoth _ (List.mem_of_getElem? h2) (fun hc hc2 => h.apart j i _ u h1 h2 hi hc hc2)) (h.ne _ (List.mem_of_getElem? h2)) _ _
    · rw [h2]
      exact oz_far (oi_app hO) hbg _ _
  · obtain ⟨j, hj, rfl⟩ := List.getElem_of_mem hv
    rcases hget j _ (List.getElem?_eq_getElem hj) with ⟨h1, h2⟩ | ⟨h1, h2⟩
    · exact h.ne _ (List.mem_of_getElem? h2) hc
    · rw [h2] at hc ⊢
      exact hbg hc
  · rcases hget j v hv with ⟨h1, h2⟩ | ⟨h1, h2⟩
    · rcases hget k v' hv' with ⟨h3, h4⟩ | ⟨h3, h4⟩
      · exact h.apart j k v v' hjk h2 h4 hc hc'
      · subst h4
        exact hbv j v h1 h2 hc hc'
    · rcases hget k v' hv' with ⟨h3, h4⟩ | ⟨h3, h4⟩
      · subst h2
        exact (hbv k v' h3 h4 hc' hc).symm
      · omega
end Go.Proofs.YtamojciiacmjaaaDoor
/- Who uses whom, by the document: the contract. -/
namespace Go.Proofs.YtamojciiacmjaaaDoor
open Num Go.RowKit
set_option linter.unusedVariables false
set_option linter.unusedSimpArgs false
attribute [local go_sem ↓] run_app
attribute [local go_sem] lenV_slice

/-- the first so many that have it as an input -/
def usesF (G : List (List Int)) (k i : Nat) : List Nat := (List.range k).filter fun a => hasB G a i
theorem usesF_yes {G : List (List Int)} {k i : Nat} (h : hasB G k i = true) : castL (usesF G (k + 1) i) = castL (usesF G k i) ++ [(k : Int)] := by
  unfold usesF
  rw [List.range_succ, List.filter_append, castL_app]
  simp [h, castL]
theorem usesF_no {G : List (List Int)} {k i : Nat} (h : hasB G k i = false) : usesF G (k + 1) i = usesF G k i := by
  unfold usesF
  rw [List.range_succ, List.filter_append]
  simp [h]
theorem has_c {G : List (List Int)} {k i : Nat} {v : Bool} (h : hasB G k i = v) : (inL G k).contains (i : Int) = v := h
theorem usesF_len (G : List (List Int)) (k i : Nat) : (castL (usesF G k i)).length ≤ k := by
  rw [castL_len]
  unfold usesF
  have := List.length_filter_le (fun a => hasB G a i) (List.range k)
  rw [List.length_range] at this
  exact this
theorem usesU_step {G : List (List Int)} {V : List Lv} {i : Nat} (h : V.map Lv.l = ((List.range i).map (usesG G)).map castL) (v : Lv) (hv : v.l = castL (usesF G G.length i)) : (V ++ [v]).map Lv.l = ((List.range (i + 1)).map (usesG G)).map castL := by
  rw [List.range_succ, List.map_append, List.map_append, List.map_append, h]
  congr 1
  simp [hv, usesF, usesG]
theorem app_wide {sz B lo : Nat} {ts : Array TypeId} {ty : TypeId} {w : World} {o : Obj} {ao : Option Addr} {n c b : Nat} {cs : List Value} {x : Value} {m : Nat} {news : List Value} {b' off' : Nat} (h : App sz B ts ty (w.alloc o) ao n c b cs x m news b' off') (hl : lo ≤ w.heap.size) (hB : lo ≤ B) : Below lo w (apW Tryd.prog ts ty (w.alloc o) (.slice ao n c) x) :=
  ((Below.refl lo w).alloc hl o).trans (h.below.mono hB)

end Go.Proofs.YtamojciiacmjaaaDoor
/- Who uses whom, by the code: the contract. -/
namespace Go.Proofs.YtamojciiacmjaaaDoor
open Num Go.RowKit
set_option linter.unusedVariables false
set_option linter.unusedSimpArgs false
attribute [local go_sem ↓] run_app
attribute [local go_sem] lenV_slice

/-- the lists, as far as so many nodes, and so many inputs of the next one, are done -/
def UU (G : List (List Int)) (a j : Nat) : List (List Int) := (List.range G.length).map fun i => castL (usesP G a j i)
theorem uu_len (G : List (List Int)) (a j : Nat) : (UU G a j).length = G.length := by unfold UU; simp
theorem uu_get {G : List (List Int)} {a j i : Nat} (h : i < G.length) : (UU G a j)[i]? = some (castL (usesP G a j i)) := by unfold UU; rw [List.getElem?_map, List.getElem?_range h]; rfl
theorem uu_start (G : List (List Int)) : UU G 0 0 = (List.replicate G.length nilV).map Lv.l := by
  unfold UU
  rw [List.map_replicate]
  apply List.ext_getElem?
  intro i
  rw [List.getElem?_map, List.getElem?_replicate]
  by_cases h : i < G.length
  · rw [List.getElem?_range h, if_pos h]
    simp [usesP_start, castL, nilV]
  · rw [List.getElem?_eq_none (by simp; omega), if_neg h]; rfl
theorem uu_next (G : List (List Int)) (a : Nat) : UU G a (inL G a).length = UU G (a + 1) 0 := by
  unfold UU
  congr 1
  funext i
  rw [usesP_next]
theorem uu_end (G : List (List Int)) : UU G G.length 0 = (usesL G).map castL := by
  unfold UU usesL
  rw [List.map_map]
  congr 1
  funext i
  rw [usesP_end]
  rfl
theorem uu_none {G : List (List Int)} {a j : Nat} {x : Int} (hx : (inL G a)[j]? = some x) (h : plc G.length x = false) : UU G a (j + 1) = UU G a j := by
  unfold UU
  apply List.map_congr_left
  intro i hi
  have hi' := List.mem_range.1 hi
  rw [usesP_same hx]
  intro e
  subst e
  unfold plc at h
  rw [decide_eq_false_iff_not] at h
  exact h ⟨by omega, by omega⟩
theorem uu_last {G : List (List Int)} {a j i : Nat} (hx : (inL G a)[j]? = some (i : Int)) (h : (i : Int) ∈ (inL G a).take j) : UU G a (j + 1) = UU G a j := by
  unfold UU
  apply List.map_congr_left
  intro k hk
  by_cases e : k = i
  · subst e; rw [usesP_last h]
  · rw [usesP_same hx (by omega)]
theorem uu_more {G : List (List Int)} {a j i : Nat} (hx : (inL G a)[j]? = some (i : Int)) (h : ¬ ((i : Int) ∈ (inL G a).take j)) : UU G a (j + 1) = (UU G a j).set i (castL (usesP G a j i) ++ [(a : Int)]) := by
  apply List.ext_getElem?
  intro k
  rw [List.getElem?_set]
  by_cases hk : k < G.length
  · rw [uu_get hk]
    by_cases e : i = k
    · subst e
      rw [if_pos rfl, if_pos (by rw [uu_len]; exact hk), usesP_more hx h, castL_app]
      rfl
    · rw [if_neg e, uu_get hk, usesP_same hx (by omega)]
  · rw [List.getElem?_eq_none (by rw [uu_len]; omega)]
    by_cases e : i = k
    · subst e
      rw [if_pos rfl, if_neg (by rw [uu_len]; omega)]
    · rw [if_neg e, List.getElem?_eq_none (by rw [uu_len]; omega)]
theorem fs_get {B : Nat} {w : World} {ao : Option Addr} {n c g off : Nat} {V : List Lv} {U : List (List Int)} (h : V.map Lv.l = U) {i : Nat} {l : List Int} (hi : U[i]? = some l) : ∃ v, V[i]? = some v ∧ v.l = l := by
  subst h
  rw [List.getElem?_map] at hi
  cases hv : V[i]? with
  | none => rw [hv] at hi; cases hi
  | some v => rw [hv] at hi; exact ⟨v, rfl, Option.some.inj hi⟩

/-- lists are answered, as many as there are places in the block -/
def RetU1 (B : Nat) (w : World) (e : Ending) (n : Nat) (U : List (List Nat)) : Prop := ∃ g V, e = .returned (.slice (some ⟨g, 0, none⟩) n n) ∧ Fs B w (some ⟨g, 0, none⟩) n n g 0 V ∧ V.map Lv.l = U.map castL
theorem retU1 {B : Nat} {w : World} {e : Ending} {n : Nat} {U : List (List Nat)} (h : RetU1 B w e n U) : ∃ g V, e = .returned (.slice (some ⟨g, 0, none⟩) n n) ∧ Fs B w (some ⟨g, 0, none⟩) n n g 0 V ∧ V.map Lv.l = U.map castL := h
set_option maxRecDepth 100000 in
set_option maxHeartbeats 4000000 in
theorem uses1_any (ao : Option Addr) (n c b off : Nat) (L : List Nv) (out : Int) (w : World) (h : Vn w ao n c b off L) (hf : Few n L) :
    Calls Tryd.prog 60 #[.agg #[.slice ao n c, .int .i64 out]] w fun e w' => RetU1 w.heap.size w' e n (usesL (insL L)) ∧ Below w.heap.size w w' := by
  have hl := vn_len h
  have hn := hf.n
  have hr := run_nils n (by omega)
  have H := hid (And.intro h (And.intro hf hl))
  have hB0 := (Below.refl w.heap.size w).alloc (Nat.le_refl _) (.cells #[.slice ao n c, .int .i64 out] 36)
  have hbx := bx_new w ao n c out 36
  have hfs := fs_news (B := w.heap.size + 1) (w := w.alloc (.cells #[.slice ao n c, .int .i64 out] 36)) (by simp) n (by omega)
  have hsz : (w.alloc (.cells #[.slice ao n c, .int .i64 out] 36)).heap.size = w.heap.size + 1 := by simp
  rw [hsz] at hfs
  have hb1 : Below (w.heap.size + 1) (w.alloc (.cells #[.slice ao n c, .int .i64 out] 36)) ((w.alloc (.cells #[.slice ao n c, .int .i64 out] 36)).alloc (.cells (nils n).toArray 22)) := (Below.refl _ _).alloc (by rw [hsz]; exact Nat.le_refl _) _
  have hG : Hid ((insL L).length = n) := by show (insL L).length = n; rw [insL_len, hl]
  clear h hl hf
  go_enter Tryd.func60, Tryd.ntmps60
  go_wp2
  generalize hg : w.heap.size + 1 = g at *
  generalize ((w.alloc (.cells #[.slice ao n c, .int .i64 out] 36)).alloc (.cells (nils n).toArray 22)) = W2 at *
  generalize (w.alloc (.cells #[.slice ao n c, .int .i64 out] 36)) = W at *
  have HB := hid (And.intro hB0 (And.intro hbx (And.intro hsz (And.intro hb1 hfs))))
  clear hB0 hbx hfs hr hsz hb1 hg
  go_loopg [4, 5, 7, 15] n (fun gk x4 x5 x7 x15 wr => ∃ (w1 : World) (a : Nat) (V : List Lv), w1 = wr ∧ a ≤ n ∧ gk = n - a ∧ x15 = .int .i64 a ∧ Below g W w1 ∧ Fs g w1 (some ⟨g, 0, none⟩) n n g 0 V ∧ V.map Lv.l = UU (insL L) a 0)
  case atStart => exact ⟨_, 0, List.replicate n nilV, rfl, Nat.zero_le _, rfl, rfl, HB.out.2.2.2.1, HB.out.2.2.2.2, by rw [uu_start, hG.out]⟩
  case round =>
    obtain ⟨w1, a, V, rfl, ha, rfl, rfl, hB1, hF1, hU1⟩ := hrel
    have hBl : Below W.heap.size W w1 := by rw [HB.out.2.2.1]; exact hB1
    have H1 := hid (And.intro hB1 (And.intro hF1 (And.intro hU1 (And.intro (via (w := w) HB.out.1 hBl) (HB.out.2.1.below hBl)))))
    obtain ⟨c0, c1⟩ := H1.out.2.2.2.2
    clear hB1 hF1 hU1 hBl
    by_cases hlt : a < n
    · have hltz : (a : Int) < (n : Int) := by omega
      obtain ⟨v, hv⟩ : ∃ v, L[a]? = some v := ⟨_, List.getElem?_eq_getElem (by rw [H.out.2.2]; exact hlt)⟩
      obtain ⟨rfl, ⟨f0, f1, f2⟩, hvi, hvp⟩ := vn_at (H.out.1.below H1.out.2.2.2.1) hv
      have HE := hid (And.intro (insL_at hv) (And.intro (H.out.1.i v (List.mem_of_getElem? hv)) (vi_len hvi)))
      have hni := H.out.2.1.i v (List.mem_of_getElem? hv)
      clear hv hvi hvp
      generalize v.ai = ai at *
      generalize v.ni = ni at *
      generalize v.ci = ci at *
      generalize v.bi = bi at *
      generalize v.oi = oi at *
      generalize v.l = l at *
      generalize v.op = op at *
      generalize v.ap = ap at *
      generalize v.np = np at *
      generalize v.cp = cp at *
      clear v
      go_wp2
      have hB2 : Below w1.heap.size w1 (w1.alloc (.cells #[.int .i64 op, .slice ai ni ci, .slice ap np cp] 24)) := (Below.refl _ _).alloc (Nat.le_refl _) _
      generalize (w1.alloc (.cells #[.int .i64 op, .slice ai ni ci, .slice ap np cp] 24)) = W3 at *
      have hgw : g ≤ w1.heap.size := by have h1 := H1.out.1.size; have h2 := HB.out.2.2.1; omega
      have HN := hid (And.intro (H1.out.1.trans (hB2.mono hgw)) (H1.out.2.1.below hB2))
      clear hB2 c0 c1 f0 f1 f2 hgw
      go_loopg [7, 23] ni (fun gk x7 x23 wr => ∃ (w3 : World) (j : Nat) (V' : List Lv), w3 = wr ∧ j ≤ ni ∧ gk = ni - j ∧ x23 = .int .i64 j ∧ Below g W w3 ∧ Fs g w3 (some ⟨g, 0, none⟩) n n g 0 V' ∧ V'.map Lv.l = UU (insL L) a j)
      case atStart => exact ⟨_, 0, V, rfl, Nat.zero_le _, rfl, rfl, HN.out.1, HN.out.2, H1.out.2.2.1⟩
      case round =>
        obtain ⟨w3, j, V', rfl, hj, rfl, rfl, hB3, hF3, hU3⟩ := hrel
        have hBl : Below W.heap.size W w3 := by rw [HB.out.2.2.1]; exact hB3
        have hBw := via (w := w) HB.out.1 hBl
        have hbx := HB.out.2.1.below hBl
        obtain ⟨d0, d1⟩ := hbx
        have hgw : g ≤ w3.heap.size := by have h1 := hB3.size; have h2 := HB.out.2.2.1; omega
        have H3 := hid (And.intro hB3 (And.intro hF3 (And.intro hU3 (And.intro hBw hgw))))
        clear hB3 hF3 hU3 hBl hBw HN
        by_cases hjlt : j < ni
        · have hjlz : (j : Int) < (ni : Int) := by omega
          obtain ⟨x, hx⟩ : ∃ m, l[j]? = some m := ⟨_, List.getElem?_eq_getElem (by rw [HE.out.2.2]; exact hjlt)⟩
          have hxi : (inL (insL L) a)[j]? = some x := by rw [HE.out.1]; exact hx
          obtain ⟨rfl, e0⟩ := vi_at (HE.out.2.1.below H3.out.2.2.2.1) hx
          have HX := hid hxi
          clear hx hxi
          rcases hp : plc n x with _ | _
          · have HP := hid hp
            clear hp
            go_wp2_with (first
              | (go_at_call 70; with_reducible refine Calls.mono (has27_any _ _ _ _ _ _ ‹_›) ?_; rintro e w4 ⟨rfl, hb⟩; have HB4 := hid hb; clear hb; rw [HP.out]))
            go_roundg (ni - (j + 1))
            case measure => omega
            case rel => exact ⟨_, j + 1, V', rfl, hjlt, rfl, by simp, H3.out.1.trans (HB4.out.mono H3.out.2.2.2.2), H3.out.2.1.below HB4.out, by rw [uu_none HX.out (by rw [hG.out]; exact HP.out)]; exact H3.out.2.2.1⟩
          · obtain ⟨i, rfl⟩ : ∃ i : Nat, x = (i : Int) := ⟨x.toNat, by unfold plc at hp; simp at hp; omega⟩
            have hi : i < n := by unfold plc at hp; simp at hp; exact hp
            have hiz : (i : Int) < (n : Int) := by omega
            have HP := hid hp
            clear hp
            obtain ⟨u, hu, hul⟩ := fs_get (B := g) (w := W) (ao := none) (n := 0) (c := 0) (g := 0) (off := 0) H3.out.2.2.1 (uu_get (G := insL L) (a := a) (j := j) (by rw [hG.out]; exact hi))
            have hend : Hid (endsB u.l (a : Int) = decide ((i : Int) ∈ (inL (insL L) a).take j)) := by show endsB u.l (a : Int) = _; rw [hul, usesP_ends]
            have hun : u.n ≤ 1001 := by have h1 := vi_len (H3.out.2.1.v u (List.mem_of_getElem? hu)).v; rw [hul, castL_len] at h1; have h2 := usesP_len (insL L) a j i; omega
            have HU := hid (And.intro hu hul)
            clear hu hul
            by_cases hm : (i : Int) ∈ (inL (insL L) a).take j
            · have HM := hid hm
              have HD : Hid (endsB u.l (a : Int) = true) := by show _ = true; rw [hend.out, decide_eq_true hm]
              clear hm hend
              go_wp2_with (first
                | (go_at_call 70; with_reducible refine Calls.mono (has27_any _ _ _ _ _ _ ‹_›) ?_; rintro e w4 ⟨rfl, hb⟩; have HB4 := hid hb; rw [HP.out]; have HF4 := hid (H3.out.2.1.below hb); clear hb; obtain ⟨-, g0, g1, -⟩ := fs_at HF4.out HU.out.1; rw [Nat.zero_add] at g0 g1)
                | (go_at_call 71; with_reducible refine Calls.mono (ends_any _ _ _ u.b u.off u.l _ _ (HF4.out.v u (List.mem_of_getElem? HU.out.1)).v) ?_; rintro e w5 ⟨rfl, hw⟩; replace hw := hw.symm; subst hw; rw [HD.out]))
              go_roundg (ni - (j + 1))
              case measure => omega
              case rel => exact ⟨_, j + 1, V', rfl, hjlt, rfl, by simp, H3.out.1.trans (HB4.out.mono H3.out.2.2.2.2), HF4.out, by rw [uu_last HX.out HM.out]; exact H3.out.2.2.1⟩
            · have HM := hid hm
              have HD : Hid (endsB u.l (a : Int) = false) := by show _ = false; rw [hend.out, decide_eq_false hm]
              clear hm hend
              go_wp2_with (first
                | (go_at_call 70; with_reducible refine Calls.mono (has27_any _ _ _ _ _ _ ‹_›) ?_; rintro e w4 ⟨rfl, hb⟩; have HB4 := hid hb; rw [HP.out]; have HF4 := hid (H3.out.2.1.below hb); have hg4 := Nat.le_trans H3.out.2.2.2.2 hb.size; clear hb; obtain ⟨-, g0, g1, -⟩ := fs_at HF4.out HU.out.1; rw [Nat.zero_add] at g0 g1)
                | (go_at_call 71; with_reducible refine Calls.mono (ends_any _ _ _ u.b u.off u.l _ _ (HF4.out.v u (List.mem_of_getElem? HU.out.1)).v) ?_; rintro e w5 ⟨rfl, hw⟩; replace hw := hw.symm; subst hw; rw [HD.out]; obtain ⟨b5, o5, hA⟩ := app28 (HF4.out.v u (List.mem_of_getElem? HU.out.1)) hg4 (Nat.le_trans hun (by decide)) (a : Int); have hF := app28_fine hA; have HA := hid hA; obtain ⟨k0, k1, k2⟩ := fs_grow HF4.out HU.out.1 (a : Int) hA; have HK := hid k2; clear hA k2))
              go_roundg (ni - (j + 1))
              case measure => omega
              case rel =>
                have hw := app_wide HA.out hg4 (Nat.le_refl _)
                have hB5 := (H3.out.1.trans (HB4.out.mono H3.out.2.2.2.2)).trans hw
                have hgs : g ≤ g := Nat.le_refl _
                exact ⟨_, j + 1, _, rfl, hjlt, rfl, by simp, hB5.setCell (p := ⟨g, i, none⟩) hgs _, HK.out, by rw [uu_more HX.out HM.out, List.map_set, H3.out.2.2.1, ← HU.out.2]⟩
        · obtain rfl : j = ni := by omega
          go_wp2
          go_roundg (n - (a + 1))
          case measure => omega
          case rel => exact ⟨_, a + 1, V', rfl, hlt, rfl, by simp, H3.out.1, H3.out.2.1, by rw [H3.out.2.2.1, ← uu_next, HE.out.1, HE.out.2.2]⟩
    · obtain rfl : a = n := by omega
      go_wp2
      go_ret
      exact ⟨⟨_, V, rfl, H1.out.2.1.mono (by have h1 := HB.out.2.2.1; have h2 := HB.out.1.size; omega), by rw [H1.out.2.2.1, ← hG.out, uu_end]⟩, H1.out.2.2.2.1⟩
theorem uses_any (ao : Option Addr) (n c b off : Nat) (L : List Nv) (out : Int) (w : World) (h : Vn w ao n c b off L) (hf : Few n L) :
    Calls Tryd.prog 60 #[.agg #[.slice ao n c, .int .i64 out]] w fun e w' => RetU w.heap.size w' e (usesL (insL L)) ∧ Below w.heap.size w w' := by
  refine (uses1_any ao n c b off L out w h hf).mono ?_
  rintro e w' ⟨⟨g, V, h1, h2, h3⟩, hb⟩
  exact ⟨⟨_, _, _, _, _, V, h1, h2, h3⟩, hb⟩
end Go.Proofs.YtamojciiacmjaaaDoor
/- How many inputs each node lacks, by the code: the contract. -/
namespace Go.Proofs.YtamojciiacmjaaaDoor
open Num Go.RowKit
set_option linter.unusedVariables false
set_option linter.unusedSimpArgs false

namespace Num
theorem flatten_le {m : Nat} : ∀ {U : List (List Nat)}, (∀ u, u ∈ U → u.length ≤ m) → U.flatten.length ≤ m * U.length
  | [], _ => by simp
  | u :: U, h => by
    have h1 := flatten_le (U := U) (fun v hv => h v (List.mem_cons_of_mem _ hv))
    have h2 := h u (by simp)
    rw [List.flatten_cons, List.length_append, List.length_cons, Nat.mul_add]
    omega
theorem lackP_le {m : Nat} {U : List (List Nat)} (h : ∀ u, u ∈ U → u.length ≤ m) (i j k : Nat) (hi : i ≤ U.length) (hj : j ≤ m) : lackP U i j k ≤ m * (U.length + 1) := by
  unfold lackP
  have h1 : ((U.take i).flatten ++ (U.getD i []).take j).count k ≤ ((U.take i).flatten ++ (U.getD i []).take j).length := List.count_le_length
  have h2 := flatten_le (U := U.take i) (m := m) (fun u hu => h u (List.mem_of_mem_take hu))
  rw [List.length_append] at h1
  rw [List.length_take] at h2
  have h3 : ((U.getD i []).take j).length ≤ j := by rw [List.length_take]; omega
  have h4 : m * min i U.length ≤ m * U.length := Nat.mul_le_mul_left _ (by omega)
  rw [Nat.mul_add]
  omega
/-- the array holds how often each stands in the first lists -/
def Lk (U : List (List Nat)) (n i j : Nat) (K : List Int) : Prop := K.length = n ∧ ∀ k, k < n → nth K k = (lackP U i j k : Int)
theorem lk_start (U : List (List Nat)) (n : Nat) : Lk U n 0 0 (List.replicate n 0) := ⟨by simp, fun k hk => by rw [lackP_start]; unfold nth; rw [List.getD_eq_getElem?_getD, List.getElem?_replicate, if_pos hk]; rfl⟩
theorem lk_next {U : List (List Nat)} {n i : Nat} {K : List Int} (h : Lk U n i (U.getD i []).length K) (hi : i < U.length) : Lk U n (i + 1) 0 K := ⟨h.1, fun k hk => by rw [h.2 k hk, lackP_next k hi]⟩
theorem lk_step {U : List (List Nat)} {n i j u : Nat} {K : List Int} (h : Lk U n i j K) (hu : (U.getD i [])[j]? = some u) (hn : u < n) : Lk U n i (j + 1) (K.set u (nth K u + 1)) := by
  refine ⟨by simpa using h.1, fun k hk => ?_⟩
  rw [lackP_step k hu]
  by_cases e : u = k
  · subst e
    rw [nth_set_eq (by rw [h.1]; exact hn), h.2 u hn, if_pos rfl]
    omega
  · rw [nth_set_ne e, h.2 k hk, if_neg e]
    omega
end Num
theorem oi_set0 {B : Nat} {w : World} {ao : Option Addr} {n c b : Nat} {l : List Int} (h : Oi B w ao n c b 0 l) {i : Nat} (hi : i < n) (v : Int) : Oi B (w.setCell ⟨b, i, none⟩ (.int .i64 v)) ao n c b 0 (l.set i v) := by
  have := oi_set h hi v
  rw [Nat.zero_add] at this
  exact this
theorem oi_nth0 {B : Nat} {w : World} {ao : Option Addr} {n c b : Nat} {l : List Int} (h : Oi B w ao n c b 0 l) {i : Nat} (hi : i < n) : w.cell? ⟨b, i, none⟩ = some (.int .i64 (nth l i)) := by
  have := vi_nth h.v hi
  rw [Nat.zero_add] at this
  exact this
theorem oi_fz0 {B : Nat} {w : World} {ao : Option Addr} {n c b : Nat} {l : List Int} (h : Oi B w ao n c b 0 l) {i : Nat} (hi : i < n) : w.frozen? ⟨b, i, none⟩ = false := by
  have := oi_fz h hi
  rw [Nat.zero_add] at this
  exact this
/-- a list is answered, as many as there are places in the block -/
def RetI1 (B : Nat) (w : World) (e : Ending) (n : Nat) (l : List Int) : Prop := ∃ g, e = .returned (.slice (some ⟨g, 0, none⟩) n n) ∧ Oi B w (some ⟨g, 0, none⟩) n n g 0 l ∧ B ≤ g ∧ g < w.heap.size
theorem retI1 {B : Nat} {w : World} {e : Ending} {n : Nat} {l : List Int} (h : RetI1 B w e n l) : ∃ g, e = .returned (.slice (some ⟨g, 0, none⟩) n n) ∧ Oi B w (some ⟨g, 0, none⟩) n n g 0 l ∧ B ≤ g ∧ g < w.heap.size := h

set_option maxRecDepth 100000 in
set_option maxHeartbeats 4000000 in
theorem lacking_any (B n g : Nat) (V : List Lv) (U : List (List Nat)) (w : World) (h : Fs B w (some ⟨g, 0, none⟩) n n g 0 V) (hU : V.map Lv.l = U.map castL) (hn : n ≤ 1000) (hm : ∀ u, u ∈ U → u.length ≤ 1001 ∧ ∀ k, k ∈ u → k < n) :
    Calls Tryd.prog 61 #[.slice (some ⟨g, 0, none⟩) n n] w fun e w' => (∃ K, RetI1 w.heap.size w' e n K ∧ Lk U n n 0 K) ∧ Below w.heap.size w w' := by
  have hl : U.length = n := by
    have h1 := fs_len h
    have h2 := congrArg List.length hU
    rw [List.length_map, List.length_map] at h2
    omega
  have hr := run_zeros n (by omega)
  have H := hid (And.intro h (And.intro hU (And.intro hm hl)))
  have hk := oi_news (lo := w.heap.size) (w := w) (Nat.le_refl _) (List.replicate n 0) (by simp; omega) 3
  rw [List.length_replicate] at hk
  have hb := (Below.refl w.heap.size w).alloc (Nat.le_refl _) (.cells (ints (List.replicate n 0)).toArray 3)
  have hsz : w.heap.size < (w.alloc (.cells (ints (List.replicate n 0)).toArray 3)).heap.size := by simp
  clear h hU hm hl
  go_enter Tryd.func61, Tryd.ntmps61
  go_wp2
  generalize (w.alloc (.cells (ints (List.replicate n 0)).toArray 3)) = W at *
  generalize hq : w.heap.size = q at *
  have HK := hid (And.intro hk (And.intro hb (And.intro hq hsz)))
  have hS := hid (lk_start U n)
  clear hk hb hr hq hsz
  generalize List.replicate n (0 : Int) = K0 at *
  go_loopg [5, 7, 13] n (fun gk x5 x7 x13 wr => ∃ (w1 : World) (i : Nat) (K : List Int), w1 = wr ∧ i ≤ n ∧ gk = n - i ∧ x13 = .int .i64 i ∧ Below q w w1 ∧ Oi q w1 (some ⟨q, 0, none⟩) n n q 0 K ∧ Lk U n i 0 K ∧ q < w1.heap.size)
  case atStart => exact ⟨_, 0, K0, rfl, Nat.zero_le _, rfl, rfl, HK.out.2.1, HK.out.1, hS.out, HK.out.2.2.2⟩
  case round =>
    obtain ⟨w1, i, K, rfl, hi, rfl, rfl, hB, hO, hL, hz⟩ := hrel
    have hBw : Below w.heap.size w w1 := by rw [HK.out.2.2.1]; exact hB
    have H1 := hid (And.intro hB (And.intro hO (And.intro hL (And.intro hBw hz))))
    clear hB hO hL hBw hS hz
    by_cases hlt : i < n
    · have hltz : (i : Int) < (n : Int) := by omega
      obtain ⟨u, hu⟩ : ∃ u, U[i]? = some u := ⟨_, List.getElem?_eq_getElem (by rw [H.out.2.2.2]; exact hlt)⟩
      obtain ⟨v, hv, hvl⟩ := fs_get (B := 0) (w := w) (ao := none) (n := 0) (c := 0) (g := 0) (off := 0) H.out.2.1 (l := castL u) (by rw [List.getElem?_map, hu]; rfl)
      obtain ⟨-, c0, -, hvo⟩ := fs_at (H.out.1.below H1.out.2.2.2.1) hv
      rw [Nat.zero_add] at c0
      have hvw := (H.out.1.v v (List.mem_of_getElem? hv)).v
      rw [hvl] at hvw
      have hul : u.length = v.n := by have := vi_len hvw; rw [castL_len] at this; exact this
      have hgd : U.getD i [] = u := by rw [List.getD_eq_getElem?_getD, hu]; rfl
      have hmu := H.out.2.2.1 u (List.mem_of_getElem? hu)
      have HE := hid (And.intro hvw (And.intro hul (And.intro hgd hmu)))
      have hvn : v.n ≤ 1001 := by omega
      clear hvw hul hgd hmu hv hvl hvo hu
      generalize v.ao = va at *
      generalize v.n = vn at *
      generalize v.c = vc at *
      generalize v.b = vb at *
      generalize v.off = vo at *
      clear v
      go_wp2
      go_loopg [7, 19] vn (fun gk x7 x19 wr => ∃ (w2 : World) (j : Nat) (K : List Int), w2 = wr ∧ j ≤ vn ∧ gk = vn - j ∧ x19 = .int .i64 j ∧ Below q w w2 ∧ Oi q w2 (some ⟨q, 0, none⟩) n n q 0 K ∧ Lk U n i j K ∧ q < w2.heap.size)
      case atStart => exact ⟨_, 0, K, rfl, Nat.zero_le _, rfl, rfl, H1.out.1, H1.out.2.1, H1.out.2.2.1, H1.out.2.2.2.2⟩
      case round =>
        obtain ⟨w2, j, K, rfl, hj, rfl, rfl, hB, hO, hL, hz⟩ := hrel
        have hBw : Below w.heap.size w w2 := by rw [HK.out.2.2.1]; exact hB
        have H2 := hid (And.intro hB (And.intro hO (And.intro hL (And.intro hBw hz))))
        clear hB hO hL hBw c0 hz
        by_cases hjlt : j < vn
        · have hjlz : (j : Int) < (vn : Int) := by omega
          obtain ⟨k, hk⟩ : ∃ k, u[j]? = some k := ⟨_, List.getElem?_eq_getElem (by rw [HE.out.2.1]; exact hjlt)⟩
          obtain ⟨rfl, e0⟩ := vi_at (HE.out.1.below H2.out.2.2.2.1) (castL_get hk)
          have hkn := HE.out.2.2.2.2 k (List.mem_of_getElem? hk)
          have hkz : (k : Int) < (n : Int) := by omega
          have e1 := oi_nth0 H2.out.2.1 hkn
          have e2 := oi_fz0 H2.out.2.1 hkn
          have hbd : 0 ≤ nth K k ∧ nth K k ≤ 2000000 := by
            rw [H2.out.2.2.1.2 k hkn]
            have h1 := lackP_le (m := 1001) (U := U) (fun u hu => (H.out.2.2.1 u hu).1) i j k (by rw [H.out.2.2.2]; omega) (by omega)
            rw [H.out.2.2.2] at h1
            omega
          obtain ⟨hb0, hb1⟩ := hbd
          have HS := hid (lk_step H2.out.2.2.1 (by rw [HE.out.2.2.1]; exact hk) hkn)
          clear hk
          go_wp2
          go_roundg (vn - (j + 1))
          case measure => omega
          case rel => exact ⟨_, j + 1, _, rfl, hjlt, rfl, by simp, H2.out.1.setCell (p := ⟨q, k, none⟩) (Nat.le_refl _) _, oi_set0 H2.out.2.1 hkn _, HS.out, by rw [World.size_setCell]; exact H2.out.2.2.2.2⟩
        · obtain rfl : j = vn := by omega
          go_wp2
          go_roundg (n - (i + 1))
          case measure => omega
          case rel => exact ⟨_, i + 1, K, rfl, hlt, rfl, by simp, H2.out.1, H2.out.2.1, lk_next (by rw [HE.out.2.2.1, HE.out.2.1]; exact H2.out.2.2.1) (by rw [H.out.2.2.2]; exact hlt), H2.out.2.2.2.2⟩
    · obtain rfl : i = n := by omega
      go_wp2
      go_ret
      exact ⟨⟨K, ⟨_, rfl, by rw [HK.out.2.2.1]; exact H1.out.2.1, by rw [HK.out.2.2.1]; exact Nat.le_refl _, H1.out.2.2.2.2⟩, H1.out.2.2.1⟩, H1.out.2.2.2.1⟩
end Go.Proofs.YtamojciiacmjaaaDoor
