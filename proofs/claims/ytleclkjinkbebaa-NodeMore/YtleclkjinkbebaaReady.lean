/- The five methods of the places that may come next: contracts. -/
import Derived.Test.YtleclkjinkbebaaInts
import Derived.Test.YtleclkjinkbebaaHeapNum
import Derived.Laws.IdiomCopy
import Derived.Deep.LoopGhost
import Derived.Deep.Light
import Derived.BigQuiet
namespace Go.Proofs.Ytleclkjinkbebaa
open Num Go.RowKit
set_option linter.unusedVariables false
set_option linter.unusedSimpArgs false

theorem len_any (ao : Option Addr) (n c : Nat) (w : World) (hn : n ≤ 9223372036854775807) : Calls Try.prog 29 #[.slice ao n c] w fun e w' => e = .returned (.int .i64 n) ∧ w' = w := by
  go_enter Try.func29, Try.ntmps29
  go_wp2
  go_ret
  exact ⟨rfl, rfl⟩
theorem less_any (ao : Option Addr) (n c b off : Nat) (l : List Int) (i j : Nat) (w : World) (h : Vi w ao n c b off l) (hi : i < n) (hj : j < n) :
    Calls Try.prog 58 #[.slice ao n c, .int .i64 i, .int .i64 j] w fun e w' => e = .returned (.bool (decide (nth l i < nth l j))) ∧ Below w.heap.size w w' := by
  have hn := vz_small h
  have c0 := vi_nth h hi
  have c1 := vi_nth h hj
  obtain rfl := h.addr (by have := h.le; omega)
  have hiz : (i : Int) < (n : Int) := by omega
  have hjz : (j : Int) < (n : Int) := by omega
  clear h
  go_enter Try.func58, Try.ntmps58
  go_wp2
  go_quiet (fail)
  go_wp2
  go_ret
  exact ⟨ret_bool (by simp), below_drewN (Below.refl _ _) _⟩
set_option maxHeartbeats 1000000 in
theorem swap_any (B : Nat) (ao : Option Addr) (n c b off : Nat) (l : List Int) (i j : Nat) (w : World) (h : Oi B w ao n c b off l) (hi : i < n) (hj : j < n) :
    Calls Try.prog 61 #[.slice ao n c, .int .i64 i, .int .i64 j] w fun e w' => e = .returned (.tuple #[]) ∧ Oi B w' ao n c b off (swapL l i j) ∧ But b w w' := by
  have hn := vz_small h.v
  have c0 := vi_nth h.v hi
  have c1 := vi_nth h.v hj
  have f0 := oi_fz h hi
  have f1 := oi_fz h hj
  obtain rfl := h.v.addr (by have := h.v.le; omega)
  have hiz : (i : Int) < (n : Int) := by omega
  have hjz : (j : Int) < (n : Int) := by omega
  have HO := hid h
  clear h
  by_cases e : i = j
  · subst e
    have d0 : (w.setCell ⟨b, off + i, none⟩ (.int .i64 (nth l i))).cell? ⟨b, off + i, none⟩ = some (.int .i64 (nth l i)) := World.cell?_setCell_same _ _ _ c0
    go_enter Try.func61, Try.ntmps61
    go_wp2
    go_region
    go_wp2
    go_returns
    refine ⟨rfl, oz_drew (oi_set (oi_set HO.out hi _) hj _), but_drew (but_set2 _ _ _ _ _ _)⟩
  · have d0 : ∀ v, (w.setCell ⟨b, off + i, none⟩ v).cell? ⟨b, off + j, none⟩ = some (.int .i64 (nth l j)) := fun v => cell_far w v (by omega) c1
    have d1 : ∀ v, (w.setCell ⟨b, off + j, none⟩ v).cell? ⟨b, off + i, none⟩ = some (.int .i64 (nth l i)) := fun v => cell_far w v (by omega) c0
    go_enter Try.func61, Try.ntmps61
    go_wp2
    go_region
    go_wp2
    go_returns
    refine ⟨rfl, oz_drew (oi_set (oi_set HO.out hi _) hj _), but_drew (but_set2 _ _ _ _ _ _)⟩

/-- what the places' functions write: their own two blocks, and new ones -/
structure Hb (B k c b : Nat) (w w' : World) : Prop where
  low : Below B w w'
  fr : ∀ g, g < w.heap.size → g ≠ k → (0 < c → g ≠ b) → w'.heap[g]? = w.heap[g]?
theorem Hb.refl (B k c b : Nat) (w : World) : Hb B k c b w w := ⟨Below.refl _ _, fun _ _ _ _ => rfl⟩
theorem Hb.trans {B k c b : Nat} {x y z : World} (h : Hb B k c b x y) (h' : Hb B k c b y z) : Hb B k c b x z :=
  ⟨h.low.trans h'.low, fun g hg h1 h2 => (h'.fr g (Nat.lt_of_lt_of_le hg h.low.size) h1 h2).trans (h.fr g hg h1 h2)⟩
theorem hb_via {B k c b : Nat} {w W1 w' : World} (h0 : B ≤ w.heap.size) (h1 : Hb B k c b w W1) (hb : Below W1.heap.size W1 w') : Hb B k c b w w' :=
  h1.trans ⟨hb.mono (Nat.le_trans h0 h1.low.size), fun g hg _ _ => hb.block g hg⟩
/-- .. where the places lie behind it -/
def Pl (c b c' b' : Nat) (w : World) : Prop := 0 < c' → (0 < c ∧ b' = b) ∨ w.heap.size ≤ b'
theorem assert3 (v : Value) (w : World) : (Instr.typeAssert (.iface 3 v) 20 3 false).run Try.prog w = .ok v w := by
  simp [Instr.typeAssert, run_underlying Try.underlying3, go_sem, Result.andThen]
/-- the places that may come next, in a block of their own: where they lie, and which they are -/
structure Hp (B : Nat) (w : World) (k : Nat) (ao : Option Addr) (n c b off : Nat) (l : List Int) : Prop where
  cell : w.cell? ⟨k, 0, none⟩ = some (.slice ao n c)
  fz : w.frozen? ⟨k, 0, none⟩ = false
  low : B ≤ k
  own : Oi B w ao n c b off l
  off : 0 < c → b ≠ k
attribute [local go_sem ↓] run_app
attribute [local go_sem] lenV_slice
set_option maxHeartbeats 1000000 in
theorem push_any (B k : Nat) (ao : Option Addr) (n c b off : Nat) (l : List Int) (v : Int) (w : World) (h : Hp B w k ao n c b off l) (hB : B ≤ w.heap.size) (hn : n ≤ 100000) :
    Calls Try.prog 60 #[.pointer (some ⟨k, 0, none⟩), .iface 3 (.int .i64 v)] w fun e w' => e = .returned (.tuple #[]) ∧ (∃ ao' c' b' off', Hp B w' k ao' (n + 1) c' b' off' (l ++ [v]) ∧ Pl c b c' b' w) ∧ Hb B k c b w w' := by
  have c0 := h.cell
  have f0 := h.fz
  have a3 := assert3
  have hk : k < w.heap.size := World.block_lt_of_cell? _ _ c0
  obtain ⟨b', off', hA⟩ := app_lit (t := 54) Try.underlying54 (h.own.below ((Below.refl _ _).alloc (Nat.le_refl _) (.cells #[.int .i64 v] 3)) |> oz_drew) (by simp; omega) hn (lit_drew (lit_new w v))
  have hF : Fine Try.prog #[54, 54] 54 (w.alloc (.cells #[.int .i64 v] 3)).drew (.slice ao n c) (.slice (some ⟨w.heap.size, 0, none⟩) 1 1) (n + 1) := hA.fine
  have d0 := (hA.cell (k := k) (by simp; omega) (fun hc => (h.off hc).symm) 0).1
  have d1 := (hA.cell (k := k) (by simp; omega) (fun hc => (h.off hc).symm) 0).2
  have e0 : (w.alloc (.cells #[.int .i64 v] 3)).drew.cell? ⟨k, 0, none⟩ = some (.slice ao n c) := cell_below ((Below.refl _ _).alloc (Nat.le_refl _) (.cells #[.int .i64 v] 3)) c0
  have e1 : (w.alloc (.cells #[.int .i64 v] 3)).drew.frozen? ⟨k, 0, none⟩ = false := (((Below.refl _ w).alloc (Nat.le_refl _) (.cells #[.int .i64 v] 3)).frozen (p := ⟨k, 0, none⟩) hk).trans f0
  rw [e0] at d0
  rw [e1] at d1
  have H := hid h
  have HA := hid hA
  clear h hA e0 e1
  go_enter Try.func60, Try.ntmps60
  go_wp2
  go_region
  go_wp2
  go_returns
  obtain ⟨a1, a2, a3', a4, a5⟩ := HA.out
  have hw : Below B w (w.alloc (.cells #[.int .i64 v] 3)).drew := ((Below.refl _ _).alloc hB _).drew
  have hz : w.heap.size < (w.alloc (.cells #[.int .i64 v] 3)).drew.heap.size := by simp
  have hwb : ∀ g, g < w.heap.size → (w.alloc (.cells #[.int .i64 v] 3)).drew.heap[g]? = w.heap[g]? := fun g hg => ((Below.refl w.heap.size w).alloc (Nat.le_refl _) (.cells #[.int .i64 v] 3)).block g hg
  have f1 := H.out.fz
  have hl := H.out.low
  have ho := H.out.off
  clear hF H HA
  generalize (w.alloc (.cells #[.int .i64 v] 3)).drew = W at *
  generalize apW Try.prog #[54, 54] 54 W (.slice ao n c) (.slice (some ⟨w.heap.size, 0, none⟩) 1 1) = W2 at *
  generalize apA Try.prog #[54, 54] 54 W (.slice ao n c) (.slice (some ⟨w.heap.size, 0, none⟩) 1 1) = ao2 at *
  generalize apC Try.prog #[54, 54] 54 W (.slice ao n c) (.slice (some ⟨w.heap.size, 0, none⟩) 1 1) = c2 at *
  have hne : 0 < c2 → b' ≠ k := fun hc => by
    rcases a5 hc with ⟨h1, h2⟩ | h1
    · rw [h2]; exact ho h1
    · omega
  exact ⟨rfl, ⟨ao2, c2, b', off', ⟨World.cell?_setCell_same _ _ _ d0, by rw [World.frozen?_setCell]; exact d1, hl, oi_app (oz_far a2 hne _ _), hne⟩, fun hc => by rcases a5 hc with h1 | h1; exact Or.inl h1; exact Or.inr (by omega)⟩, (hw.trans a3').setCell (p := ⟨k, 0, none⟩) hl _, fun g hg h1 h2 => ((Below.heap_setCell _ _ _ _ h1).trans (a4 g (by omega) h2)).trans (hwb g hg)⟩

theorem cut41 (n c b off m : Nat) (hc : 0 < c) (hm : m ≤ c) (hb : c ≤ maxLen) (w : World) : (Instr.slice 54 (.slice (some ⟨b, off, none⟩) n c) none (some (.int .i64 m)) none).run Try.prog w = .ok (.slice (some ⟨b, off, none⟩) m c) w := by
  have h1 : ¬ (c = 0) := by omega
  have z3 := Try.sizeOf3
  have u41 := Try.underlying54
  have e1 : Try.prog.elem 54 = 3 := by simp [Program.elem, u41]
  rw [run_slice_h (w := w) (t := 54) (ht := by rw [e1]; exact u41) (kh := .i64) (h0 := by omega) (h2 := by omega), e1]
  simp [go_sem, sliced, h1, z3, Addr.add]
theorem cut41' (n c b off m : Nat) (hc : 0 < c) (hm : m ≤ c) (hb : c ≤ maxLen) (w : World) : (Instr.sliceAt 54 (.slice (some ⟨b, off, none⟩) n c) none (some (.int .i64 m)) none).run Try.prog w = .ok (.slice (some ⟨b, off, none⟩) m c) w := by
  have u41 := Try.underlying54
  have e1 : Try.prog.elem 54 = 3 := by simp [Program.elem, u41]
  rw [run_sliceAt_slice (h := by rw [e1]; exact u41), cut41 n c b off m hc hm hb w]
theorem but_hp {g B : Nat} {W w : World} {k : Nat} {ao : Option Addr} {n c b off : Nat} {l : List Int} (h : Hp B W k ao n c b off l) (hb : But g W w) (h1 : k ≠ g) (h2 : 0 < c → b ≠ g) : Hp B w k ao n c b off l :=
  ⟨(World.cell?_of_block (a := ⟨k, 0, none⟩) (hb.block k (World.block_lt_of_cell? _ _ h.cell) h1)).trans h.cell, (World.frozen?_of_block (a := ⟨k, 0, none⟩) (hb.block k (World.block_lt_of_cell? _ _ h.cell) h1)).trans h.fz, h.low, h.own.but hb h2, h.off⟩
theorem hp_below {B : Nat} {W w : World} {k : Nat} {ao : Option Addr} {n c b off : Nat} {l : List Int} (h : Hp B W k ao n c b off l) (hb : Below W.heap.size W w) : Hp B w k ao n c b off l :=
  ⟨cell_below hb h.cell, (hb.frozen (p := ⟨k, 0, none⟩) (World.block_lt_of_cell? _ _ h.cell)).trans h.fz, h.low, h.own.below hb, h.off⟩
set_option maxHeartbeats 1000000 in
theorem pop_any (B k : Nat) (ao : Option Addr) (n c b off : Nat) (l : List Int) (w : World) (h : Hp B w k ao (n + 1) c b off l) :
    Calls Try.prog 59 #[.pointer (some ⟨k, 0, none⟩)] w fun e w' => e = .returned (.iface 3 (.int .i64 (nth l n))) ∧ Hp B w' k ao n c b off (l.take n) ∧ Hb B k c b w w' := by
  have c0 := h.cell
  have f0 := h.fz
  have hn := vz_small h.own.v
  have hle := h.own.v.le
  have hm := h.own.v.max
  have c1 := vi_nth h.own.v (i := n) (by omega)
  obtain rfl := h.own.v.addr (by omega)
  have s0 := cut41 (n + 1) c b off n (by omega) (by omega) hm
  have s1 := cut41' (n + 1) c b off n (by omega) (by omega) hm
  have hz : ((n + 1 : Nat) : Int) - 1 = (n : Int) := by omega
  have hz1 : (n : Int) < ((n + 1 : Nat) : Int) := by omega
  have H := hid h
  clear h hm
  go_enter Try.func59, Try.ntmps59
  go_wp2
  go_ret
  have O := H.out
  exact ⟨rfl, ⟨World.cell?_setCell_same _ _ _ c0, by rw [World.frozen?_setCell]; exact f0, O.low, oi_take (oz_far O.own O.off _ _) (by omega), O.off⟩, (Below.refl _ _).setCell (p := ⟨k, 0, none⟩) O.low _, fun g hg h1 h2 => Below.heap_setCell _ _ _ _ h1⟩
theorem hp_len {B : Nat} {w : World} {k : Nat} {ao : Option Addr} {n c b off : Nat} {l : List Int} (h : Hp B w k ao n c b off l) : l.length = n := vi_len h.own.v
theorem hp_swap {B : Nat} {W w : World} {k : Nat} {ao : Option Addr} {n c b off : Nat} {l l' : List Int} (h : Hp B W k ao n c b off l) (hn : 0 < n) (ho : Oi B w ao n c b off l') (hb : But b W w) : Hp B w k ao n c b off l' ∧ Hb B k c b W w := by
  have hc : 0 < c := by have := h.own.v.le; omega
  have hk : k < W.heap.size := World.block_lt_of_cell? _ _ h.cell
  refine ⟨⟨(World.cell?_of_block (a := ⟨k, 0, none⟩) (hb.block k hk (h.off hc).symm)).trans h.cell, (World.frozen?_of_block (a := ⟨k, 0, none⟩) (hb.block k hk (h.off hc).symm)).trans h.fz, h.low, ho, h.off⟩, ?_⟩
  refine ⟨?_, fun g hg _ h2 => hb.block g hg (h2 hc)⟩
  exact hb.low (h.own.new hc).1 (by have := (h.own.new hc).1; have := (h.own.new hc).2; omega)
end Go.Proofs.Ytleclkjinkbebaa
