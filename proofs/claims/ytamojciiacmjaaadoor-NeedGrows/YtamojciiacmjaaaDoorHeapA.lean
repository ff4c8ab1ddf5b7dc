import Derived.Test.YtamojciiacmjaaaDoorMemA
import Derived.Test.YtamojciiacmjaaaDoorPlainA
import Derived.Laws.IdiomCopy
import Derived.Deep.LoopGhost
import Derived.Deep.Light
import Derived.BigQuiet
import Derived.Handy
import Derived.Test.YtamojciiacmjaaaDoorFamA
/- The five methods of the places that may come next: contracts. -/
namespace Go.Proofs.YtamojciiacmjaaaDoor
open Num Go.RowKit
set_option linter.unusedVariables false
set_option linter.unusedSimpArgs false

theorem len_any (ao : Option Addr) (n c : Nat) (w : World) (hn : n ≤ 9223372036854775807) : Calls Tryd.prog 63 #[.slice ao n c] w fun e w' => e = .returned (.int .i64 n) ∧ w' = w := by
  go_enter Tryd.func63, Tryd.ntmps63
  go_wp2
  go_ret
  exact ⟨rfl, rfl⟩
theorem less_any (ao : Option Addr) (n c b off : Nat) (l : List Int) (i j : Nat) (w : World) (h : Vi w ao n c b off l) (hi : i < n) (hj : j < n) :
    Calls Tryd.prog 91 #[.slice ao n c, .int .i64 i, .int .i64 j] w fun e w' => e = .returned (.bool (decide (nth l i < nth l j))) ∧ Below w.heap.size w w' := by
  have hn := vz_small h
  have c0 := vi_nth h hi
  have c1 := vi_nth h hj
  obtain rfl := h.addr (by have := h.le; omega)
  have hiz : (i : Int) < (n : Int) := by omega
  have hjz : (j : Int) < (n : Int) := by omega
  clear h
  go_enter Tryd.func91, Tryd.ntmps91
  go_wp2
  go_quiet (fail)
  go_wp2
  go_ret
  exact ⟨ret_bool (by simp), below_drewN (Below.refl _ _) _⟩
set_option maxHeartbeats 1000000 in
theorem swap_any (B : Nat) (ao : Option Addr) (n c b off : Nat) (l : List Int) (i j : Nat) (w : World) (h : Oi B w ao n c b off l) (hi : i < n) (hj : j < n) :
    Calls Tryd.prog 94 #[.slice ao n c, .int .i64 i, .int .i64 j] w fun e w' => e = .returned (.tuple #[]) ∧ Oi B w' ao n c b off (swapL l i j) ∧ But b w w' := by
  have hn := vz_small h.v
  have c0 := vi_nth h.v hi
  have c1 := vi_nth h.v hj
  have f0 := oi_fz h hi
  have f1 := oi_fz h hj
  obtain rfl := h.v.addr (by have := h.v.le; omega)
  have hiz : (i : Int) < (n : Int) := by omega
  have hjz : (j : Int) < (n : Int) := by omega
  have HO := hid h
  clear h
  by_cases e : i = j
  · subst e
    have d0 : (w.setCell ⟨b, off + i, none⟩ (.int .i64 (nth l i))).cell? ⟨b, off + i, none⟩ = some (.int .i64 (nth l i)) := World.cell?_setCell_same _ _ _ c0
    go_enter Tryd.func94, Tryd.ntmps94
    go_wp2
    go_region
    go_wp2
    go_returns
    refine ⟨rfl, oz_drew (oi_set (oi_set HO.out hi _) hj _), but_drew (but_set2 _ _ _ _ _ _)⟩
  · have d0 : ∀ v, (w.setCell ⟨b, off + i, none⟩ v).cell? ⟨b, off + j, none⟩ = some (.int .i64 (nth l j)) := fun v => cell_far w v (by omega) c1
    have d1 : ∀ v, (w.setCell ⟨b, off + j, none⟩ v).cell? ⟨b, off + i, none⟩ = some (.int .i64 (nth l i)) := fun v => cell_far w v (by omega) c0
    go_enter Tryd.func94, Tryd.ntmps94
    go_wp2
    go_region
    go_wp2
    go_returns
    refine ⟨rfl, oz_drew (oi_set (oi_set HO.out hi _) hj _), but_drew (but_set2 _ _ _ _ _ _)⟩

/-- what the places' functions write: their own two blocks, and new ones -/
structure Hb (B k c b : Nat) (w w' : World) : Prop where
  low : Below B w w'
  fr : ∀ g, g < w.heap.size → g ≠ k → (0 < c → g ≠ b) → w'.heap[g]? = w.heap[g]?
theorem Hb.refl (B k c b : Nat) (w : World) : Hb B k c b w w := ⟨Below.refl _ _, fun _ _ _ _ => rfl⟩
theorem Hb.trans {B k c b : Nat} {x y z : World} (h : Hb B k c b x y) (h' : Hb B k c b y z) : Hb B k c b x z :=
  ⟨h.low.trans h'.low, fun g hg h1 h2 => (h'.fr g (Nat.lt_of_lt_of_le hg h.low.size) h1 h2).trans (h.fr g hg h1 h2)⟩
theorem hb_via {B k c b : Nat} {w W1 w' : World} (h0 : B ≤ w.heap.size) (h1 : Hb B k c b w W1) (hb : Below W1.heap.size W1 w') : Hb B k c b w w' :=
  h1.trans ⟨hb.mono (Nat.le_trans h0 h1.low.size), fun g hg _ _ => hb.block g hg⟩
/-- .. where the places lie behind it -/
def Pl (c b c' b' : Nat) (w : World) : Prop := 0 < c' → (0 < c ∧ b' = b) ∨ w.heap.size ≤ b'
theorem assert3 (v : Value) (w : World) : (Instr.typeAssert (.iface 3 v) 20 3 false).run Tryd.prog w = .ok v w := by
  simp [Instr.typeAssert, run_underlying Tryd.underlying3, go_sem, Result.andThen]
/-- the places that may come next, in a block of their own: where they lie, and which they are -/
structure Hp (B : Nat) (w : World) (k : Nat) (ao : Option Addr) (n c b off : Nat) (l : List Int) : Prop where
  cell : w.cell? ⟨k, 0, none⟩ = some (.slice ao n c)
  fz : w.frozen? ⟨k, 0, none⟩ = false
  low : B ≤ k
  own : Oi B w ao n c b off l
  off : 0 < c → b ≠ k
attribute [local go_sem ↓] run_app
attribute [local go_sem] lenV_slice
set_option maxHeartbeats 1000000 in
theorem push_any (B k : Nat) (ao : Option Addr) (n c b off : Nat) (l : List Int) (v : Int) (w : World) (h : Hp B w k ao n c b off l) (hB : B ≤ w.heap.size) (hn : n ≤ 100000) :
    Calls Tryd.prog 93 #[.pointer (some ⟨k, 0, none⟩), .iface 3 (.int .i64 v)] w fun e w' => e = .returned (.tuple #[]) ∧ (∃ ao' c' b' off', Hp B w' k ao' (n + 1) c' b' off' (l ++ [v]) ∧ Pl c b c' b' w) ∧ Hb B k c b w w' := by
  have c0 := h.cell
  have f0 := h.fz
  have a3 := assert3
  have hk : k < w.heap.size := World.block_lt_of_cell? _ _ c0
  obtain ⟨b', off', hA⟩ := app_lit (t := 84) Tryd.underlying84 (h.own.below ((Below.refl _ _).alloc (Nat.le_refl _) (.cells #[.int .i64 v] 3)) |> oz_drew) (by simp; omega) hn (lit_drew (lit_new w v))
  have hF : Fine Tryd.prog #[84, 84] 84 (w.alloc (.cells #[.int .i64 v] 3)).drew (.slice ao n c) (.slice (some ⟨w.heap.size, 0, none⟩) 1 1) (n + 1) := hA.fine
  have d0 := (hA.cell (k := k) (by simp; omega) (fun hc => (h.off hc).symm) 0).1
  have d1 := (hA.cell (k := k) (by simp; omega) (fun hc => (h.off hc).symm) 0).2
  have e0 : (w.alloc (.cells #[.int .i64 v] 3)).drew.cell? ⟨k, 0, none⟩ = some (.slice ao n c) := cell_below ((Below.refl _ _).alloc (Nat.le_refl _) (.cells #[.int .i64 v] 3)) c0
  have e1 : (w.alloc (.cells #[.int .i64 v] 3)).drew.frozen? ⟨k, 0, none⟩ = false := (((Below.refl _ w).alloc (Nat.le_refl _) (.cells #[.int .i64 v] 3)).frozen (p := ⟨k, 0, none⟩) hk).trans f0
  rw [e0] at d0
  rw [e1] at d1
  have H := hid h
  have HA := hid hA
  clear h hA e0 e1
  go_enter Tryd.func93, Tryd.ntmps93
  go_wp2
  go_region
  go_wp2
  go_returns
  obtain ⟨a1, a2, a3', a4, a5⟩ := HA.out
  have hw : Below B w (w.alloc (.cells #[.int .i64 v] 3)).drew := ((Below.refl _ _).alloc hB _).drew
  have hz : w.heap.size < (w.alloc (.cells #[.int .i64 v] 3)).drew.heap.size := by simp
  have hwb : ∀ g, g < w.heap.size → (w.alloc (.cells #[.int .i64 v] 3)).drew.heap[g]? = w.heap[g]? := fun g hg => ((Below.refl w.heap.size w).alloc (Nat.le_refl _) (.cells #[.int .i64 v] 3)).block g hg
  have f1 := H.out.fz
  have hl := H.out.low
  have ho := H.out.off
  clear hF H HA
  generalize (w.alloc (.cells #[.int .i64 v] 3)).drew = W at *
  generalize apW Tryd.prog #[84, 84] 84 W (.slice ao n c) (.slice (some ⟨w.heap.size, 0, none⟩) 1 1) = W2 at *
  generalize apA Tryd.prog #[84, 84] 84 W (.slice ao n c) (.slice (some ⟨w.heap.size, 0, none⟩) 1 1) = ao2 at *
  generalize apC Tryd.prog #[84, 84] 84 W (.slice ao n c) (.slice (some ⟨w.heap.size, 0, none⟩) 1 1) = c2 at *
  have hne : 0 < c2 → b' ≠ k := fun hc => by
    rcases a5 hc with ⟨h1, h2⟩ | h1
    · rw [h2]; exact ho h1
    · omega
  exact ⟨rfl, ⟨ao2, c2, b', off', ⟨World.cell?_setCell_same _ _ _ d0, by rw [World.frozen?_setCell]; exact d1, hl, oi_app (oz_far a2 hne _ _), hne⟩, fun hc => by rcases a5 hc with h1 | h1; exact Or.inl h1; exact Or.inr (by omega)⟩, (hw.trans a3').setCell (p := ⟨k, 0, none⟩) hl _, fun g hg h1 h2 => ((Below.heap_setCell _ _ _ _ h1).trans (a4 g (by omega) h2)).trans (hwb g hg)⟩

theorem cut41 (n c b off m : Nat) (hc : 0 < c) (hm : m ≤ c) (hb : c ≤ maxLen) (w : World) : (Instr.slice 84 (.slice (some ⟨b, off, none⟩) n c) none (some (.int .i64 m)) none).run Tryd.prog w = .ok (.slice (some ⟨b, off, none⟩) m c) w := by
  have h1 : ¬ (c = 0) := by omega
  have z3 := Tryd.sizeOf3
  have u41 := Tryd.underlying84
  have e1 : Tryd.prog.elem 84 = 3 := by simp [Program.elem, u41]
  rw [run_slice_h (w := w) (t := 84) (ht := by rw [e1]; exact u41) (kh := .i64) (h0 := by omega) (h2 := by omega), e1]
  simp [go_sem, sliced, h1, z3, Addr.add]
theorem cut41' (n c b off m : Nat) (hc : 0 < c) (hm : m ≤ c) (hb : c ≤ maxLen) (w : World) : (Instr.sliceAt 84 (.slice (some ⟨b, off, none⟩) n c) none (some (.int .i64 m)) none).run Tryd.prog w = .ok (.slice (some ⟨b, off, none⟩) m c) w := by
  have u41 := Tryd.underlying84
  have e1 : Tryd.prog.elem 84 = 3 := by simp [Program.elem, u41]
  rw [run_sliceAt_slice (h := by rw [e1]; exact u41), cut41 n c b off m hc hm hb w]
theorem but_hp {g B : Nat} {W w : World} {k : Nat} {ao : Option Addr} {n c b off : Nat} {l : List Int} (h : Hp B W k ao n c b off l) (hb : But g W w) (h1 : k ≠ g) (h2 : 0 < c → b ≠ g) : Hp B w k ao n c b off l :=
  ⟨(World.cell?_of_block (a := ⟨k, 0, none⟩) (hb.block k (World.block_lt_of_cell? _ _ h.cell) h1)).trans h.cell, (World.frozen?_of_block (a := ⟨k, 0, none⟩) (hb.block k (World.block_lt_of_cell? _ _ h.cell) h1)).trans h.fz, h.low, h.own.but hb h2, h.off⟩
theorem hp_below {B : Nat} {W w : World} {k : Nat} {ao : Option Addr} {n c b off : Nat} {l : List Int} (h : Hp B W k ao n c b off l) (hb : Below W.heap.size W w) : Hp B w k ao n c b off l :=
  ⟨cell_below hb h.cell, (hb.frozen (p := ⟨k, 0, none⟩) (World.block_lt_of_cell? _ _ h.cell)).trans h.fz, h.low, h.own.below hb, h.off⟩
set_option maxHeartbeats 1000000 in
theorem pop_any (B k : Nat) (ao : Option Addr) (n c b off : Nat) (l : List Int) (w : World) (h : Hp B w k ao (n + 1) c b off l) :
    Calls Tryd.prog 92 #[.pointer (some ⟨k, 0, none⟩)] w fun e w' => e = .returned (.iface 3 (.int .i64 (nth l n))) ∧ Hp B w' k ao n c b off (l.take n) ∧ Hb B k c b w w' := by
  have c0 := h.cell
  have f0 := h.fz
  have hn := vz_small h.own.v
  have hle := h.own.v.le
  have hm := h.own.v.max
  have c1 := vi_nth h.own.v (i := n) (by omega)
  obtain rfl := h.own.v.addr (by omega)
  have s0 := cut41 (n + 1) c b off n (by omega) (by omega) hm
  have s1 := cut41' (n + 1) c b off n (by omega) (by omega) hm
  have hz : ((n + 1 : Nat) : Int) - 1 = (n : Int) := by omega
  have hz1 : (n : Int) < ((n + 1 : Nat) : Int) := by omega
  have H := hid h
  clear h hm
  go_enter Tryd.func92, Tryd.ntmps92
  go_wp2
  go_ret
  have O := H.out
  exact ⟨rfl, ⟨World.cell?_setCell_same _ _ _ c0, by rw [World.frozen?_setCell]; exact f0, O.low, oi_take (oz_far O.own O.off _ _) (by omega), O.off⟩, (Below.refl _ _).setCell (p := ⟨k, 0, none⟩) O.low _, fun g hg h1 h2 => Below.heap_setCell _ _ _ _ h1⟩
theorem hp_len {B : Nat} {w : World} {k : Nat} {ao : Option Addr} {n c b off : Nat} {l : List Int} (h : Hp B w k ao n c b off l) : l.length = n := vi_len h.own.v
theorem hp_swap {B : Nat} {W w : World} {k : Nat} {ao : Option Addr} {n c b off : Nat} {l l' : List Int} (h : Hp B W k ao n c b off l) (hn : 0 < n) (ho : Oi B w ao n c b off l') (hb : But b W w) : Hp B w k ao n c b off l' ∧ Hb B k c b W w := by
  have hc : 0 < c := by have := h.own.v.le; omega
  have hk : k < W.heap.size := World.block_lt_of_cell? _ _ h.cell
  refine ⟨⟨(World.cell?_of_block (a := ⟨k, 0, none⟩) (hb.block k hk (h.off hc).symm)).trans h.cell, (World.frozen?_of_block (a := ⟨k, 0, none⟩) (hb.block k hk (h.off hc).symm)).trans h.fz, h.low, ho, h.off⟩, ?_⟩
  refine ⟨?_, fun g hg _ h2 => hb.block g hg (h2 hc)⟩
  exact hb.low (h.own.new hc).1 (by have := (h.own.new hc).1; have := (h.own.new hc).2; omega)
end Go.Proofs.YtamojciiacmjaaaDoor
/- What a method's name means to the places that may come next. -/
namespace Go.Proofs.YtamojciiacmjaaaDoor
open Num Go.RowKit
set_option linter.unusedVariables false
set_option linter.unusedSimpArgs false

theorem find_Len : (Array.find? (fun x => x.name == "Len") Tryd.t83.methods).map (fun m => (m.path, m.func)) = some (#[], some (63, false)) := by kernel_rfl
theorem find_Less : (Array.find? (fun x => x.name == "Less") Tryd.t83.methods).map (fun m => (m.path, m.func)) = some (#[], some (91, false)) := by kernel_rfl
theorem find_Swap : (Array.find? (fun x => x.name == "Swap") Tryd.t83.methods).map (fun m => (m.path, m.func)) = some (#[], some (94, false)) := by kernel_rfl
theorem find_parts {s : String} {p : Array FieldStep} {f : Option (FuncId × Bool)} (h : (Array.find? (fun x => x.name == s) Tryd.t83.methods).map (fun m => (m.path, m.func)) = some (p, f)) : ∃ m, Array.find? (fun x => x.name == s) Tryd.t83.methods = some m ∧ m.path = p ∧ m.func = f := by
  cases hm : Array.find? (fun x => x.name == s) Tryd.t83.methods with
  | none => rw [hm] at h; simp at h
  | some m =>
    rw [hm] at h
    simp at h
    exact ⟨m, rfl, h.1, h.2⟩
theorem wrap_ok (ts : Array TypeId) (ty : TypeId) (a : Addr) (s t : String) (w : World) : (Builtin.ssaWrapNilChk_ ts ty #[.pointer (some a), strVal s, strVal t]).run Tryd.prog w = .ok (.pointer (some a)) w := rfl
theorem meth_by {s : String} {f : FuncId} (hf : (Array.find? (fun x => x.name == s) Tryd.t83.methods).map (fun m => (m.path, m.func)) = some (#[], some (f, false)))
    {w : World} {k : Nat} {ao : Option Addr} {n c : Nat} (h : w.cell? ⟨k, 0, none⟩ = some (.slice ao n c)) : (method 218 83 (.pointer (some ⟨k, 0, none⟩)) s).run Tryd.prog w = .ok (f, .slice ao n c) w := by
  have u40 := Tryd.underlying83
  have u41 := Tryd.underlying84
  obtain ⟨m, e1, e2, e3⟩ := find_parts hf
  rw [method]
  simp only [Sem.run_bind]
  simp only [go_sem]
  simp [e1, e2, e3, follow, receiverAt, Place.get, wrap_ok, run_underlying u40, asAddr, loadVar]
  rw [h]
  rfl

end Go.Proofs.YtamojciiacmjaaaDoor
/- heap's own functions: contracts. -/
namespace Go.Proofs.YtamojciiacmjaaaDoor
open Num Go.RowKit
set_option linter.unusedVariables false
set_option linter.unusedSimpArgs false

set_option maxRecDepth 100000 in
set_option maxHeartbeats 1000000 in
theorem up_any (B k : Nat) (ao : Option Addr) (n c b off : Nat) (l : List Int) (j : Nat) (w : World) (h : Hp B w k ao n c b off l) (hB0 : B ≤ w.heap.size) (hj : j < n) (hu : upI n l j) :
    Calls Tryd.prog 72 #[.iface 83 (.pointer (some ⟨k, 0, none⟩)), .int .i64 j] w fun e w' => e = .returned (.tuple #[]) ∧ (∃ l', heapN n l' ∧ l'.Perm l ∧ Hp B w' k ao n c b off l') ∧ Hb B k c b w w' := by
  have hn := vz_small h.own.v
  go_enter Tryd.func72, Tryd.ntmps72
  go_wp2
  go_loopg [1] j (fun g i wr => ∃ l', g < n ∧ i = .int .i64 g ∧ upI n l' g ∧ l'.Perm l ∧ Hp B wr k ao n c b off l' ∧ Hb B k c b w wr)
  case atStart => exact ⟨l, hj, rfl, hu, List.Perm.refl _, h, Hb.refl _ _ _ _ _⟩
  case round =>
    obtain ⟨l', hg, rfl, hu', hp, h', hB⟩ := hrel
    have m1 := meth_by find_Less h'.cell
    have H := hid (And.intro hu' (And.intro hp (And.intro h' hB)))
    clear h hu hu' hp h' hB
    by_cases h0 : gk = 0
    · subst h0
      go_wp2
      go_returns
      obtain ⟨hu, hp, h, hB⟩ := H.out
      exact ⟨rfl, ⟨l', up_top hu, hp, h⟩, hB⟩
    · obtain ⟨q, hq⟩ : ∃ q, q = (gk - 1) / 2 := ⟨_, rfl⟩
      have hqz : ((gk : Int) - 1) / 2 = (q : Int) := by omega
      have hqn : ¬ ((q : Int) = (gk : Int)) := by omega
      have hqlt : q < n := by omega
      have Hq := hid hq
      clear hq
      rcases hlt : decide (nth l' gk < nth l' q) with _ | _
      · have HL := hid hlt
        clear hlt
        go_wp2_with (first
          | (go_at_call 91; with_reducible refine Calls.mono (less_any _ _ _ b off l' gk q _ H.out.2.2.1.own.v ‹_› ‹_›) ?_; rintro e w1 ⟨rfl, hb⟩; rw [HL.out]))
        go_returns
        obtain ⟨hu, hp, h, hB⟩ := H.out
        have hle := HL.out
        rw [Hq.out] at hle
        simp at hle
        exact ⟨rfl, ⟨l', up_end hu hle, hp, hp_below h hb⟩, hb_via hB0 hB hb⟩
      · have HL := hid hlt
        clear hlt
        go_wp2_with (first
          | (go_at_call 91; with_reducible refine Calls.mono (less_any _ _ _ b off l' gk q _ H.out.2.2.1.own.v ‹_› ‹_›) ?_; rintro e w1 ⟨rfl, hb⟩; rw [HL.out]; have H1 := hid (hp_below H.out.2.2.1 hb); have HB := hid (hb_via hB0 H.out.2.2.2 hb); clear m1 hb; have m2 := meth_by find_Swap H1.out.cell)
          | (go_at_call 94; with_reducible refine Calls.mono (swap_any B _ _ _ b off l' q gk _ H1.out.own ‹_› ‹_›) ?_; rintro e w2 ⟨rfl, ho, hb⟩; have H2 := hid (hp_swap H1.out (Nat.lt_of_le_of_lt (Nat.zero_le _) hg) ho hb); clear m2 ho hb))
        go_roundg q
        case measure => have := Hq.out; omega
        case rel =>
          obtain ⟨hu, hp, h, hB⟩ := H.out
          have hl := hp_len h
          have hlt := HL.out
          rw [Hq.out] at hlt
          simp at hlt
          have e := Hq.out
          exact ⟨swapL l' q gk, hqlt, rfl, by rw [e]; exact up_step hu (by omega) (by omega) hg hlt, (swap_perm (by omega) (by omega)).trans hp, H2.out.1, HB.out.trans H2.out.2⟩

set_option maxRecDepth 100000 in
set_option maxHeartbeats 1000000 in
theorem down_any (B k : Nat) (ao : Option Addr) (n c b off : Nat) (l : List Int) (w : World) (h : Hp B w k ao (n + 1) c b off l) (hB0 : B ≤ w.heap.size) (hn1 : n ≤ 1000000) (hu : downI n l 0) :
    Calls Tryd.prog 74 #[.iface 83 (.pointer (some ⟨k, 0, none⟩)), .int .i64 0, .int .i64 n] w fun e w' => (∃ x, e = .returned (.bool x)) ∧ (∃ l', heapN n l' ∧ l'.Perm l ∧ nth l' n = nth l n ∧ Hp B w' k ao (n + 1) c b off l') ∧ Hb B k c b w w' := by
  go_enter Tryd.func74, Tryd.ntmps74
  go_wp2
  go_loopg [7] (n + 1) (fun g i wr => ∃ (p : Nat) (l' : List Int), p ≤ n ∧ g = n + 1 - p ∧ i = .int .i64 p ∧ downI n l' p ∧ l'.Perm l ∧ nth l' n = nth l n ∧ Hp B wr k ao (n + 1) c b off l' ∧ Hb B k c b w wr)
  case atStart => exact ⟨0, l, Nat.zero_le _, rfl, rfl, hu, List.Perm.refl _, rfl, h, Hb.refl _ _ _ _ _⟩
  case round =>
    obtain ⟨p, l', hp, rfl, rfl, hu', hpe, hla, h', hB⟩ := hrel
    have m1 := meth_by find_Less h'.cell
    have H := hid (And.intro hu' (And.intro hpe (And.intro hla (And.intro h' hB))))
    clear h hu hu' hpe hla h' hB
    by_cases hleaf : 2 * p + 1 < n
    · obtain ⟨j1, hj1⟩ : ∃ j1, j1 = 2 * p + 1 := ⟨_, rfl⟩
      obtain ⟨j2, hj2⟩ : ∃ j2, j2 = 2 * p + 2 := ⟨_, rfl⟩
      have z1 : 2 * (p : Int) + 1 = (j1 : Int) := by omega
      have z2 : (j1 : Int) + 1 = (j2 : Int) := by omega
      have z3 : ¬ ((n : Int) ≤ (j1 : Int)) := by omega
      have z4 : ¬ ((j1 : Int) < 0) := by omega
      have b1 : j1 < n + 1 := by omega
      have b0 : p < n + 1 := by omega
      have E := hid (And.intro hj1 hj2)
      clear hj1 hj2
      by_cases hsnd : j2 < n
      · have b2 : j2 < n + 1 := by omega
        have z5 : (j2 : Int) < (n : Int) := by omega
        rcases hlt : decide (nth l' j2 < nth l' j1) with _ | _
        · have HL := hid hlt
          clear hlt
          have Hle := hid (show lesser n l' p j1 from by
            have h1 := HL.out
            have hs := hsnd
            obtain ⟨e1, e2⟩ := E.out
            subst e1; subst e2
            simp at h1
            exact lesser_fst hs (by omega))
          rcases hm : decide (nth l' j1 < nth l' p) with _ | _
          · have HM := hid hm
            clear hm
            go_wp2_with (first | (go_at_call 91; with_reducible refine Calls.mono (less_any _ _ _ b off l' j2 j1 _ H.out.2.2.2.1.own.v ‹_› ‹_›) ?_; rintro e w1 ⟨rfl, hb⟩; rw [HL.out]; have H1 := hid (hp_below H.out.2.2.2.1 hb); have HB := hid (hb_via hB0 H.out.2.2.2.2 hb); clear m1 hb; have m2 := meth_by find_Less H1.out.cell) | (go_at_call 91; with_reducible refine Calls.mono (less_any _ _ _ b off l' j1 p _ H1.out.own.v ‹_› ‹_›) ?_; rintro e w2 ⟨rfl, hb⟩; rw [HM.out]; have H2 := hid (hp_below H1.out hb); have HB2 := hid (hb_via hB0 HB.out hb); clear m2 hb; have m3 := meth_by find_Swap H2.out.cell))
            go_ret
            obtain ⟨hu, hpe, hla, h, hB⟩ := H.out
            have hle := HM.out
            simp at hle
            exact ⟨⟨_, rfl⟩, ⟨l', down_end hu Hle.out (by omega), hpe, hla, H2.out⟩, HB2.out⟩
          · have HM := hid hm
            clear hm
            go_wp2_with (first | (go_at_call 91; with_reducible refine Calls.mono (less_any _ _ _ b off l' j2 j1 _ H.out.2.2.2.1.own.v ‹_› ‹_›) ?_; rintro e w1 ⟨rfl, hb⟩; rw [HL.out]; have H1 := hid (hp_below H.out.2.2.2.1 hb); have HB := hid (hb_via hB0 H.out.2.2.2.2 hb); clear m1 hb; have m2 := meth_by find_Less H1.out.cell) | (go_at_call 91; with_reducible refine Calls.mono (less_any _ _ _ b off l' j1 p _ H1.out.own.v ‹_› ‹_›) ?_; rintro e w2 ⟨rfl, hb⟩; rw [HM.out]; have H2 := hid (hp_below H1.out hb); have HB2 := hid (hb_via hB0 HB.out hb); clear m2 hb; have m3 := meth_by find_Swap H2.out.cell) | (go_at_call 94; with_reducible refine Calls.mono (swap_any B _ _ _ b off l' p j1 _ H2.out.own ‹_› ‹_›) ?_; rintro e w3 ⟨rfl, ho, hb⟩; have H3 := hid (hp_swap H2.out (Nat.succ_pos n) ho hb); clear m3 ho hb))
            go_roundg (n + 1 - j1)
            case measure => have := Hle.out.1; have := Hle.out.2.1; have := Hle.out.2.2.1; omega
            case rel =>
              obtain ⟨hu, hpe, hla, h, hB⟩ := H.out
              have hlt := HM.out
              have hl := hp_len h
              simp at hlt
              have hj := Hle.out.2.1
              exact ⟨j1, swapL l' p j1, by omega, rfl, rfl, down_step hu (by omega) Hle.out hlt, (swap_perm (by omega) (by omega)).trans hpe, (swap_last (by omega) (by omega)).trans hla, H3.out.1, HB2.out.trans H3.out.2⟩
        · have HL := hid hlt
          clear hlt
          have Hle := hid (show lesser n l' p j2 from by
            have h1 := HL.out
            have hs := hsnd
            obtain ⟨e1, e2⟩ := E.out
            subst e1; subst e2
            simp at h1
            exact lesser_snd hs h1)
          rcases hm : decide (nth l' j2 < nth l' p) with _ | _
          · have HM := hid hm
            clear hm
            go_wp2_with (first | (go_at_call 91; with_reducible refine Calls.mono (less_any _ _ _ b off l' j2 j1 _ H.out.2.2.2.1.own.v ‹_› ‹_›) ?_; rintro e w1 ⟨rfl, hb⟩; rw [HL.out]; have H1 := hid (hp_below H.out.2.2.2.1 hb); have HB := hid (hb_via hB0 H.out.2.2.2.2 hb); clear m1 hb; have m2 := meth_by find_Less H1.out.cell) | (go_at_call 91; with_reducible refine Calls.mono (less_any _ _ _ b off l' j2 p _ H1.out.own.v ‹_› ‹_›) ?_; rintro e w2 ⟨rfl, hb⟩; rw [HM.out]; have H2 := hid (hp_below H1.out hb); have HB2 := hid (hb_via hB0 HB.out hb); clear m2 hb; have m3 := meth_by find_Swap H2.out.cell))
            go_ret
            obtain ⟨hu, hpe, hla, h, hB⟩ := H.out
            have hle := HM.out
            simp at hle
            exact ⟨⟨_, rfl⟩, ⟨l', down_end hu Hle.out (by omega), hpe, hla, H2.out⟩, HB2.out⟩
          · have HM := hid hm
            clear hm
            go_wp2_with (first | (go_at_call 91; with_reducible refine Calls.mono (less_any _ _ _ b off l' j2 j1 _ H.out.2.2.2.1.own.v ‹_› ‹_›) ?_; rintro e w1 ⟨rfl, hb⟩; rw [HL.out]; have H1 := hid (hp_below H.out.2.2.2.1 hb); have HB := hid (hb_via hB0 H.out.2.2.2.2 hb); clear m1 hb; have m2 := meth_by find_Less H1.out.cell) | (go_at_call 91; with_reducible refine Calls.mono (less_any _ _ _ b off l' j2 p _ H1.out.own.v ‹_› ‹_›) ?_; rintro e w2 ⟨rfl, hb⟩; rw [HM.out]; have H2 := hid (hp_below H1.out hb); have HB2 := hid (hb_via hB0 HB.out hb); clear m2 hb; have m3 := meth_by find_Swap H2.out.cell) | (go_at_call 94; with_reducible refine Calls.mono (swap_any B _ _ _ b off l' p j2 _ H2.out.own ‹_› ‹_›) ?_; rintro e w3 ⟨rfl, ho, hb⟩; have H3 := hid (hp_swap H2.out (Nat.succ_pos n) ho hb); clear m3 ho hb))
            go_roundg (n + 1 - j2)
            case measure => have := Hle.out.1; have := Hle.out.2.1; have := Hle.out.2.2.1; omega
            case rel =>
              obtain ⟨hu, hpe, hla, h, hB⟩ := H.out
              have hlt := HM.out
              have hl := hp_len h
              simp at hlt
              have hj := Hle.out.2.1
              exact ⟨j2, swapL l' p j2, by omega, rfl, rfl, down_step hu (by omega) Hle.out hlt, (swap_perm (by omega) (by omega)).trans hpe, (swap_last (by omega) (by omega)).trans hla, H3.out.1, HB2.out.trans H3.out.2⟩
      · have z5 : ¬ ((j2 : Int) < (n : Int)) := by omega
        have Hle := hid (show lesser n l' p j1 from by
          have hs := hsnd
          obtain ⟨e1, e2⟩ := E.out
          subst e1; subst e2
          exact lesser_one hleaf hs)
        rcases hm : decide (nth l' j1 < nth l' p) with _ | _
        · have HM := hid hm
          clear hm
          go_wp2_with (first | (go_at_call 91; with_reducible refine Calls.mono (less_any _ _ _ b off l' j1 p _ H.out.2.2.2.1.own.v ‹_› ‹_›) ?_; rintro e w2 ⟨rfl, hb⟩; rw [HM.out]; have H2 := hid (hp_below H.out.2.2.2.1 hb); have HB2 := hid (hb_via hB0 H.out.2.2.2.2 hb); clear m1 hb; have m3 := meth_by find_Swap H2.out.cell))
          go_ret
          obtain ⟨hu, hpe, hla, h, hB⟩ := H.out
          have hle := HM.out
          simp at hle
          exact ⟨⟨_, rfl⟩, ⟨l', down_end hu Hle.out (by omega), hpe, hla, H2.out⟩, HB2.out⟩
        · have HM := hid hm
          clear hm
          go_wp2_with (first | (go_at_call 91; with_reducible refine Calls.mono (less_any _ _ _ b off l' j1 p _ H.out.2.2.2.1.own.v ‹_› ‹_›) ?_; rintro e w2 ⟨rfl, hb⟩; rw [HM.out]; have H2 := hid (hp_below H.out.2.2.2.1 hb); have HB2 := hid (hb_via hB0 H.out.2.2.2.2 hb); clear m1 hb; have m3 := meth_by find_Swap H2.out.cell) | (go_at_call 94; with_reducible refine Calls.mono (swap_any B _ _ _ b off l' p j1 _ H2.out.own ‹_› ‹_›) ?_; rintro e w3 ⟨rfl, ho, hb⟩; have H3 := hid (hp_swap H2.out (Nat.succ_pos n) ho hb); clear m3 ho hb))
          go_roundg (n + 1 - j1)
          case measure => have := Hle.out.1; have := Hle.out.2.1; have := Hle.out.2.2.1; omega
          case rel =>
            obtain ⟨hu, hpe, hla, h, hB⟩ := H.out
            have hlt := HM.out
            have hl := hp_len h
            simp at hlt
            have hj := Hle.out.2.1
            exact ⟨j1, swapL l' p j1, by omega, rfl, rfl, down_step hu (by omega) Hle.out hlt, (swap_perm (by omega) (by omega)).trans hpe, (swap_last (by omega) (by omega)).trans hla, H3.out.1, HB2.out.trans H3.out.2⟩
    · have z1 : (n : Int) ≤ 2 * (p : Int) + 1 := by omega
      go_wp2
      go_ret
      obtain ⟨hu, hpe, hla, h, hB⟩ := H.out
      exact ⟨⟨_, rfl⟩, ⟨l', down_leaf hu (by omega), hpe, hla, h⟩, hB⟩
end Go.Proofs.YtamojciiacmjaaaDoor
/- What may come next is put in, and the least one is taken out: contracts. -/
namespace Go.Proofs.YtamojciiacmjaaaDoor
open Num Go.RowKit
set_option linter.unusedVariables false
set_option linter.unusedSimpArgs false

theorem hb_grow {B k c b c' b' : Nat} {x y z : World} (h : Hb B k c b x y) (hp : Pl c b c' b' x) (h' : Hb B k c' b' y z) : Hb B k c b x z :=
  ⟨h.low.trans h'.low, fun g hg h1 h2 => (h'.fr g (Nat.lt_of_lt_of_le hg h.low.size) h1 (fun hc => by rcases hp hc with ⟨h3, h4⟩ | h3; exact h4 ▸ h2 h3; omega)).trans (h.fr g hg h1 h2)⟩
set_option maxRecDepth 100000 in
set_option maxHeartbeats 1000000 in
theorem hpush_any (B k : Nat) (ao : Option Addr) (n c b off : Nat) (l' : List Int) (v : Int) (w : World) (h : Hp B w k ao n c b off l') (hh : heapN n l') (hB0 : B ≤ w.heap.size) (hn : n ≤ 100000) :
    Calls Tryd.prog 62 #[.iface 83 (.pointer (some ⟨k, 0, none⟩)), .iface 3 (.int .i64 v)] w fun e w' => e = .returned (.tuple #[]) ∧ (∃ ao2 c2 b2 off2 l2, Hp B w' k ao2 (n + 1) c2 b2 off2 l2 ∧ heapN (n + 1) l2 ∧ l2.Perm (l' ++ [v]) ∧ Pl c b c2 b2 w) ∧ Hb B k c b w w' := by
  have H := hid (And.intro h hh)
  have hz : ((n + 1 : Nat) : Int) - 1 = (n : Int) := by omega
  have hz1 : ((n : Int) + 1) - 1 = (n : Int) := by omega
  have hu := hid (up_start hh (hp_len h) v)
  clear h hh
  go_enter Tryd.func62, Tryd.ntmps62
  go_wp2_with (first
    | (go_at_call 93; with_reducible refine Calls.mono (push_any _ _ _ _ _ _ _ _ _ _ H.out.1 ‹_› ‹_›) ?_; rintro e w1 ⟨rfl, ⟨ao2, c2, b2, off2, h2, hpl⟩, hb⟩; have HB := hid hb; have H2 := hid h2; have HP := hid hpl; clear hpl; have m1 := meth_by find_Len H2.out.cell; clear hb h2)
    | (go_at_call 63; with_reducible refine Calls.mono (len_any _ _ _ _ (vz_small H2.out.own.v)) ?_; rintro e w2 ⟨rfl, hw⟩; replace hw := hw.symm; subst hw; clear m1)
    | (go_at_call 72; with_reducible refine Calls.mono (up_any B _ _ _ _ _ _ _ n _ H2.out (Nat.le_trans hB0 HB.out.low.size) (Nat.lt_succ_self n) hu.out) ?_; rintro e w3 ⟨rfl, h3, hb⟩; have H3 := hid h3; have HB3 := hid hb; clear h3 hb))
  go_returns
  obtain ⟨l3, q1, q2, q3⟩ := H3.out
  exact ⟨rfl, ⟨_, _, _, _, l3, q3, q1, q2, HP.out⟩, hb_grow HB.out HP.out HB3.out⟩

theorem pop_parts {n : Nat} {l l2 : List Int} (hh : heapN (n + 1) l) (hl : l.length = n + 1) (h1 : heapN n l2) (h2 : l2.Perm (swapL l 0 n)) (h3 : nth l2 n = nth (swapL l 0 n) n) :
    nth l2 n = nth l 0 ∧ heapN n (l2.take n) ∧ (nth l 0 :: l2.take n).Perm l ∧ ∀ x, x ∈ l → nth l 0 ≤ x := by
  have e : nth l2 n = nth l 0 := by rw [h3, swap_snd (by omega)]
  have hp : l2.Perm l := h2.trans (swap_perm (by omega) (by omega))
  have hl2 : l2.length = n + 1 := by rw [hp.length_eq, hl]
  refine ⟨e, heap_take h1, ?_, fun x hx => ?_⟩
  · rw [← e]
    have : (nth l2 n :: l2.take n).Perm (l2.take n ++ [nth l2 n]) := (List.perm_append_singleton _ _).symm
    rw [take_last hl2] at this
    exact this.trans hp
  · obtain ⟨i, hi, rfl⟩ := List.getElem_of_mem hx
    rw [← nth_elem hi]
    exact heap_least hh i (by omega)

set_option maxRecDepth 100000 in
set_option maxHeartbeats 1000000 in
theorem hpop_any (B k : Nat) (ao : Option Addr) (n c b off : Nat) (l' : List Int) (w : World) (h : Hp B w k ao (n + 1) c b off l') (hh : heapN (n + 1) l') (hB0 : B ≤ w.heap.size) (hn : n ≤ 100000) :
    Calls Tryd.prog 73 #[.iface 83 (.pointer (some ⟨k, 0, none⟩))] w fun e w' => (∃ m l2, e = .returned (.iface 3 (.int .i64 m)) ∧ Hp B w' k ao n c b off l2 ∧ heapN n l2 ∧ (m :: l2).Perm l' ∧ ∀ x, x ∈ l' → m ≤ x) ∧ Hb B k c b w w' := by
  have H := hid (And.intro h hh)
  have hz : ((n + 1 : Nat) : Int) - 1 = (n : Int) := by omega
  have hz1 : ((n : Int) + 1) - 1 = (n : Int) := by omega
  have m1 := meth_by find_Len h.cell
  have hu := hid (down_start hh)
  clear h hh
  go_enter Tryd.func73, Tryd.ntmps73
  go_wp2_with (first
    | (go_at_call 63; with_reducible refine Calls.mono (len_any _ _ _ _ (vz_small H.out.1.own.v)) ?_; rintro e w2 ⟨rfl, hw⟩; replace hw := hw.symm; subst hw; clear m1; have m2 := meth_by find_Swap H.out.1.cell)
    | (go_at_call 94; with_reducible refine Calls.mono (swap_any B _ _ _ b off l' 0 n _ H.out.1.own (Nat.succ_pos n) (Nat.lt_succ_self n)) ?_; rintro e w3 ⟨rfl, ho, hb⟩; have H3 := hid (hp_swap H.out.1 (Nat.succ_pos n) ho hb); clear m2 ho hb)
    | (go_at_call 74; with_reducible refine Calls.mono (down_any B _ _ n _ _ _ _ _ H3.out.1 (Nat.le_trans hB0 H3.out.2.low.size) (Nat.le_trans hn (by decide)) hu.out) ?_; rintro e w4 ⟨⟨x, rfl⟩, h4, hb⟩; obtain ⟨l4, q1, q2, q3, q4⟩ := h4; have H4 := hid (And.intro q1 (And.intro q2 (And.intro q3 q4))); have HB4 := hid hb; clear q1 q2 q3 q4 hb)
    | (go_at_call 92; with_reducible refine Calls.mono (pop_any B _ _ n _ _ _ _ _ H4.out.2.2.2) ?_; rintro e w5 ⟨rfl, h5, hb⟩; have H5 := hid h5; have HB5 := hid hb; clear h5 hb))
  go_ret
  obtain ⟨e1, e2, e3, e4⟩ := pop_parts H.out.2 (hp_len H.out.1) H4.out.1 H4.out.2.1 H4.out.2.2.1
  exact ⟨⟨_, _, by rw [e1]; rfl, H5.out, e2, e3, e4⟩, (H3.out.2.trans HB4.out).trans HB5.out⟩

theorem least_any (B k : Nat) (ao : Option Addr) (n c b off : Nat) (l' : List Int) (w : World) (h : Hp B w k ao (n + 1) c b off l') (hh : heapN (n + 1) l') (hB0 : B ≤ w.heap.size) (hn : n ≤ 100000) :
    Calls Tryd.prog 64 #[.pointer (some ⟨k, 0, none⟩)] w fun e w' => (∃ m l2, e = .returned (.int .i64 m) ∧ Hp B w' k ao n c b off l2 ∧ heapN n l2 ∧ (m :: l2).Perm l' ∧ ∀ x, x ∈ l' → m ≤ x) ∧ Hb B k c b w w' := by
  have a3 := assert3
  go_enter Tryd.func64, Tryd.ntmps64
  go_wp2_with (first
    | (go_at_call 73; with_reducible refine Calls.mono (hpop_any _ _ _ _ _ _ _ _ _ h hh hB0 hn) ?_; rintro e w1 ⟨⟨m, l2, rfl, h1⟩, hb⟩))
  go_ret
  exact ⟨⟨_, _, rfl, h1⟩, hb⟩
end Go.Proofs.YtamojciiacmjaaaDoor
/- What is held while the order is made: what each node lacks, who may come next, and the order so far. -/
namespace Go.Proofs.YtamojciiacmjaaaDoor
open Num Go.RowKit
set_option linter.unusedVariables false
set_option linter.unusedSimpArgs false

namespace Num
theorem nodup_lenI : ∀ (n : Nat) {L : List Int}, L.Nodup → (∀ i, i ∈ L → 0 ≤ i ∧ i < (n : Int)) → L.length ≤ n
  | 0, L, hn, h => by
    cases L with
    | nil => simp
    | cons a l => have := h a (by simp); omega
  | n + 1, L, hn, h => by
    by_cases hm : (n : Int) ∈ L
    · have h1 := nodup_lenI n (hn.erase (n : Int)) (fun i hi => by
        have h2 := h i (List.mem_of_mem_erase hi)
        have h3 : i ≠ (n : Int) := fun e => by subst e; exact hn.not_mem_erase hi
        omega)
      rw [List.length_erase_of_mem hm] at h1
      omega
    · have := nodup_lenI n hn (fun i hi => by
        have h2 := h i hi
        have h3 : i ≠ (n : Int) := fun e => by subst e; exact hm hi
        omega)
      omega
theorem bag_len {l : List Int} {S : Nat → Prop} (h : Bag l S) {n : Nat} (hs : ∀ k, S k → k < n) : l.length ≤ n :=
  nodup_lenI n h.1 fun i hi => by
    obtain ⟨k, rfl, hk⟩ := (h.2 i).1 hi
    have := hs k hk
    omega
theorem bag_perm {l l' : List Int} {S : Nat → Prop} (h : Bag l S) (hp : l'.Perm l) : Bag l' S := ⟨hp.nodup_iff.2 h.1, fun x => hp.mem_iff.trans (h.2 x)⟩
theorem ka_perm {G : List (List Int)} {L : List Nat} {K H H' : List Int} (h : Ka G L K H) (hp : H'.Perm H) : Ka G L K H' := ⟨h.st, h.len, h.lack, bag_perm h.bag hp⟩
theorem kb_perm {G : List (List Int)} {L : List Nat} {a j : Nat} {K H H' : List Int} (h : Kb G L a j K H) (hp : H'.Perm H) : Kb G L a j K H' := ⟨h.st, h.next, h.len, h.lack, bag_perm h.bag hp⟩
theorem k0_perm {G : List (List Int)} {a : Nat} {K H H' : List Int} (h : K0 G a K H) (hp : H'.Perm H) : K0 G a K H' := ⟨h.len, h.lack, bag_perm h.bag hp⟩
theorem kb_len {G : List (List Int)} {L : List Nat} {a j : Nat} {K H : List Int} (h : Kb G L a j K H) : H.length ≤ G.length := bag_len h.bag fun k hk => hk.1
theorem ka_len {G : List (List Int)} {L : List Nat} {K H : List Int} (h : Ka G L K H) : H.length ≤ G.length := bag_len h.bag fun k hk => hk.1
theorem k0_len {G : List (List Int)} {a : Nat} {K H : List Int} (h : K0 G a K H) : H.length ≤ a := bag_len h.bag fun k hk => hk.1
end Num

theorem heap_far {w : World} {g o b : Nat} {v : Value} (h : b ≠ g) : (w.setCell ⟨g, o, none⟩ v).heap[b]? = w.heap[b]? := Below.heap_setCell _ _ _ _ h
theorem hp_far {B : Nat} {w : World} {k : Nat} {ao : Option Addr} {n c b off : Nat} {l : List Int} (h : Hp B w k ao n c b off l) {g : Nat} (hg : g < B) (o : Nat) (v : Value) : Hp B (w.setCell ⟨g, o, none⟩ v) k ao n c b off l :=
  ⟨cell_else w v (by have := h.low; omega) h.cell, by rw [World.frozen?_setCell]; exact h.fz, h.low, oz_far h.own (fun hc => by have := (h.own.new hc).1; omega) o v, h.off⟩
theorem hp_block {B : Nat} {W w : World} {k : Nat} {ao : Option Addr} {n c b off : Nat} {l : List Int} (h : Hp B W k ao n c b off l) (hz : W.heap.size ≤ w.heap.size) (hk : w.heap[k]? = W.heap[k]?) (hb : 0 < c → w.heap[b]? = W.heap[b]?) : Hp B w k ao n c b off l :=
  ⟨(World.cell?_of_block (a := ⟨k, 0, none⟩) hk).trans h.cell, (World.frozen?_of_block (a := ⟨k, 0, none⟩) hk).trans h.fz, h.low, h.own.block hz hb, h.off⟩

/-- all of it: above block B the places that may come next and the order so far; below it, above T, what each lacks -/
structure Al (T B k gl n : Nat) (w1 : World) (K : List Int) (ao : Option Addr) (m c b off : Nat) (l : List Int) (ao2 : Option Addr) (r c2 b2 o2 : Nat) (M : List Nat) (wr : World) : Prop where
  low : Below T w1 wr
  size : B ≤ wr.heap.size
  kk : Oi T wr (some ⟨gl, 0, none⟩) n n gl 0 K
  glB : gl < B
  glT : T ≤ gl
  hp : Hp B wr k ao m c b off l
  heap : heapN m l
  li : Oi B wr ao2 r c2 b2 o2 (castL M)
  nk : 0 < c2 → b2 ≠ k
  nb : 0 < c2 → 0 < c → b ≠ b2
section
variable {T B k gl n : Nat} {w1 : World} {K : List Int} {ao : Option Addr} {m c b off : Nat} {l : List Int} {ao2 : Option Addr} {r c2 b2 o2 : Nat} {M : List Nat} {wr : World}
theorem Al.TB (h : Al T B k gl n w1 K ao m c b off l ao2 r c2 b2 o2 M wr) : T ≤ B := by have h1 := h.glB; have h2 := h.glT; omega
theorem al_pop (h : Al T B k gl n w1 K ao m c b off l ao2 r c2 b2 o2 M wr) {w' : World} (hb : Hb B k c b wr w') {m' : Nat} {l' : List Int} (hp : Hp B w' k ao m' c b off l') (hh : heapN m' l') :
    Al T B k gl n w1 K ao m' c b off l' ao2 r c2 b2 o2 M w' :=
  ⟨h.low.trans (hb.low.mono h.TB), Nat.le_trans h.size hb.low.size, h.kk.block hb.low.size (fun _ => hb.low.block gl h.glB), h.glB, h.glT, hp, hh, h.li.block hb.low.size (fun hc => hb.fr b2 (h.li.new hc).2 (h.nk hc) (fun hc2 => (h.nb hc hc2).symm)), h.nk, h.nb⟩
theorem al_push (h : Al T B k gl n w1 K ao m c b off l ao2 r c2 b2 o2 M wr) {w' : World} (hb : Hb B k c b wr w') {ao' : Option Addr} {m' c' b' off' : Nat} {l' : List Int} (hp : Hp B w' k ao' m' c' b' off' l') (hh : heapN m' l') (hpl : Pl c b c' b' wr) :
    Al T B k gl n w1 K ao' m' c' b' off' l' ao2 r c2 b2 o2 M w' :=
  ⟨h.low.trans (hb.low.mono h.TB), Nat.le_trans h.size hb.low.size, h.kk.block hb.low.size (fun _ => hb.low.block gl h.glB), h.glB, h.glT, hp, hh, h.li.block hb.low.size (fun hc => hb.fr b2 (h.li.new hc).2 (h.nk hc) (fun hc2 => (h.nb hc hc2).symm)), h.nk,
    fun hc hc' => by
      rcases hpl hc' with ⟨h1, h2⟩ | h1
      · rw [h2]; exact h.nb hc h1
      · have := (h.li.new hc).2; omega⟩
theorem al_less (h : Al T B k gl n w1 K ao m c b off l ao2 r c2 b2 o2 M wr) {i : Nat} (hi : i < n) (v : Int) :
    Al T B k gl n w1 (K.set i v) ao m c b off l ao2 r c2 b2 o2 M (wr.setCell ⟨gl, i, none⟩ (.int .i64 v)) :=
  ⟨h.low.setCell (p := ⟨gl, i, none⟩) h.glT _, by rw [World.size_setCell]; exact h.size, oi_set0 h.kk hi v, h.glB, h.glT, hp_far h.hp h.glB _ _, h.heap, oz_far h.li (fun hc => by have h1 := (h.li.new hc).1; have h2 := h.glB; omega) _ _, h.nk, h.nb⟩
theorem al_app (h : Al T B k gl n w1 K ao m c b off l ao2 r c2 b2 o2 M wr) (a : Nat) {b5 o5 : Nat}
    (hA : App 1 B #[22, 22] 22 (wr.alloc (.cells #[.int .i64 (a : Int)] 3)) ao2 r c2 b2 (ints (castL M)) (.slice (some ⟨wr.heap.size, 0, none⟩) 1 1) 1 (ints [(a : Int)]) b5 o5) :
    Al T B k gl n w1 K ao m c b off l (apA Tryd.prog #[22, 22] 22 (wr.alloc (.cells #[.int .i64 (a : Int)] 3)) (.slice ao2 r c2) (.slice (some ⟨wr.heap.size, 0, none⟩) 1 1)) (r + 1) (apC Tryd.prog #[22, 22] 22 (wr.alloc (.cells #[.int .i64 (a : Int)] 3)) (.slice ao2 r c2) (.slice (some ⟨wr.heap.size, 0, none⟩) 1 1)) b5 o5 (M ++ [a])
      (apW Tryd.prog #[22, 22] 22 (wr.alloc (.cells #[.int .i64 (a : Int)] 3)) (.slice ao2 r c2) (.slice (some ⟨wr.heap.size, 0, none⟩) 1 1)) := by
  have hw := app_wide hA h.size (Nat.le_refl _)
  have hz : (wr.alloc (.cells #[.int .i64 (a : Int)] 3)).heap.size = wr.heap.size + 1 := by simp
  have ha : ∀ g, g < wr.heap.size → (wr.alloc (.cells #[.int .i64 (a : Int)] 3)).heap[g]? = wr.heap[g]? := fun g hg => ((Below.refl wr.heap.size wr).alloc (Nat.le_refl _) (.cells #[.int .i64 (a : Int)] 3)).block g hg
  have hfr : ∀ g, g < wr.heap.size → (0 < c2 → g ≠ b2) → (apW Tryd.prog #[22, 22] 22 (wr.alloc (.cells #[.int .i64 (a : Int)] 3)) (.slice ao2 r c2) (.slice (some ⟨wr.heap.size, 0, none⟩) 1 1)).heap[g]? = wr.heap[g]? := fun g hg hne => (hA.other g (by omega) hne).trans (ha g hg)
  have hkl : k < wr.heap.size := World.block_lt_of_cell? _ _ h.hp.cell
  refine ⟨h.low.trans (hw.mono h.TB), Nat.le_trans h.size hw.size, h.kk.block hw.size (fun _ => hw.block gl h.glB), h.glB, h.glT, hp_block h.hp hw.size (hfr k hkl (fun hc => (h.nk hc).symm)) (fun hc => hfr b (h.hp.own.new hc).2 (fun hc2 => h.nb hc2 hc)), h.heap, ?_, fun hc => ?_, fun hc hc' => ?_⟩
  · rw [castL_app]; exact oi_app hA.own
  · rcases hA.place hc with ⟨h1, h2⟩ | h1
    · rw [h2]; exact h.nk h1
    · omega
  · rcases hA.place hc with ⟨h1, h2⟩ | h1
    · rw [h2]; exact h.nb h1 hc'
    · have := (h.hp.own.new hc').2; omega
end
theorem hp_new {B : Nat} {w : World} (hB : B ≤ w.heap.size) : Hp B ((w.alloc (.cells #[] 3)).alloc (.cells #[.slice (some ⟨w.heap.size, 0, none⟩) 0 0] 84)) (w.heap.size + 1) (some ⟨w.heap.size, 0, none⟩) 0 0 0 0 [] := by
  have e : (w.alloc (.cells #[] 3)).heap.size = w.heap.size + 1 := by simp
  have h1 := World.cell?_alloc_new (w.alloc (.cells #[] 3)) #[.slice (some ⟨w.heap.size, 0, none⟩) 0 0] 84 0
  have h2 := World.frozen?_alloc_new (w.alloc (.cells #[] 3)) #[.slice (some ⟨w.heap.size, 0, none⟩) 0 0] 84 0
  rw [e] at h1 h2
  exact ⟨h1, h2, by omega, oi_nil _ _ _, fun hc => absurd hc (by omega)⟩
end Go.Proofs.YtamojciiacmjaaaDoor
/- The order, by the code: the contract. -/
namespace Go.Proofs.YtamojciiacmjaaaDoor
open Num Go.RowKit
set_option linter.unusedVariables false
set_option linter.unusedSimpArgs false
attribute [local go_sem ↓] run_app
attribute [local go_sem] lenV_slice

theorem usesL_small (G : List (List Int)) {n : Nat} (hn : G.length = n) (h : n ≤ 1000) : ∀ u, u ∈ usesL G → u.length ≤ 1001 ∧ ∀ k, k ∈ u → k < n := by
  intro u hu
  unfold usesL at hu
  obtain ⟨i, hi, rfl⟩ := List.mem_map.1 hu
  exact ⟨by have := uses_len G i; omega, fun k hk => by have := (mem_uses.1 hk).1; omega⟩
theorem lack_k0 {G : List (List Int)} {n : Nat} {K : List Int} (hn : G.length = n) (h : Lk (usesL G) n n 0 K) : K0 G 0 K [] := by
  subst hn
  refine k0_start h.1 fun k hk => ?_
  rw [h.2 k hk]
  have := lack_start hk
  rw [usesL_len] at this
  rw [this]

theorem lt_cast {x a q : Nat} (h : x = a) (hq : q < x) : (q : Int) < (a : Int) := by omega
theorem lv_get {V : List Lv} {G : List (List Int)} (h : V.map Lv.l = (usesL G).map castL) {i : Nat} (hi : i < G.length) : ∃ v, V[i]? = some v ∧ v.l = castL (usesG G i) := by
  have h1 : ((usesL G).map castL)[i]? = some (castL (usesG G i)) := by rw [List.getElem?_map, usesL_get hi]; rfl
  rw [← h, List.getElem?_map] at h1
  cases hv : V[i]? with
  | none => rw [hv] at h1; cases h1
  | some v => rw [hv] at h1; exact ⟨v, rfl, Option.some.inj h1⟩
theorem fs_bel {B T : Nat} {W w : World} {ao : Option Addr} {n c g off : Nat} {V : List Lv} (hT : W.heap.size = T) (h : Fs B W ao n c g off V) (hb : Below T W w) : Fs B w ao n c g off V := by subst hT; exact h.below hb
theorem vi_bel {T : Nat} {W w : World} {ao : Option Addr} {n c b off : Nat} {l : List Int} (hT : W.heap.size = T) (h : Vi W ao n c b off l) (hb : Below T W w) : Vi w ao n c b off l := by subst hT; exact h.below hb
set_option maxRecDepth 100000 in
set_option maxHeartbeats 8000000 in
theorem all_any (ao : Option Addr) (n c b off : Nat) (L : List Nv) (out : Int) (w : World) (h : Vn w ao n c b off L) (hf : Few n L) :
    Calls Tryd.prog 36 #[.agg #[.slice ao n c, .int .i64 out]] w fun e w' => RetI w.heap.size w' e (castL (ordG (insL L))) ∧ Below w.heap.size w w' := by
  have hl := vn_len h
  have hn := hf.n
  have hB0 := (Below.refl w.heap.size w).alloc (Nat.le_refl _) (.cells #[.slice ao n c, .int .i64 out] 36)
  have hG : Hid ((insL L).length = n) := by show (insL L).length = n; rw [insL_len, hl]
  have H := hid (And.intro (h.below hB0) (And.intro hf hB0))
  clear h hl hf hB0
  go_enter Tryd.func36, Tryd.ntmps36
  go_wp2_with (first
    | (go_at_call 60; with_reducible refine Calls.mono (uses1_any _ _ _ b off L _ _ H.out.1 H.out.2.1) ?_; rintro e w1 ⟨hr, hb⟩; obtain ⟨g, V, rfl, hV, hU⟩ := retU1 hr; have H1 := hid (And.intro hV (And.intro hU (via (w := w) H.out.2.2 hb))); clear hr hV hU hb)
    | (go_at_call 61; with_reducible refine Calls.mono (lacking_any _ n g V (usesL (insL L)) _ H1.out.1 H1.out.2.1 ‹_› (usesL_small _ hG.out ‹_›)) ?_; rintro e w2 ⟨⟨K, hr, hK⟩, hb⟩; obtain ⟨gl, rfl, hO, hg1, hg2⟩ := retI1 hr; have H2 := hid (And.intro hb (And.intro hO hK)); clear hr hO hK hb))
  have hbw : Below w2.heap.size w2 ((w2.alloc (.cells #[] 3)).alloc (.cells #[.slice (some ⟨w2.heap.size, 0, none⟩) 0 0] 84)) := ((Below.refl _ _).alloc (Nat.le_refl _) _).alloc (by simp) _
  have hst : Al w1.heap.size w2.heap.size (w2.heap.size + 1) gl n w1 K (some ⟨w2.heap.size, 0, none⟩) 0 0 0 0 [] none 0 0 0 0 [] ((w2.alloc (.cells #[] 3)).alloc (.cells #[.slice (some ⟨w2.heap.size, 0, none⟩) 0 0] 84)) :=
    ⟨via (w := w1) H2.out.1 hbw, hbw.size, H2.out.2.1.below hbw, hg2, hg1, hp_new (Nat.le_refl _), fun i h0 h1 => by omega, oi_nil _ _ _, fun hc => absurd hc (by omega), fun hc => absurd hc (by omega)⟩
  generalize ((w2.alloc (.cells #[] 3)).alloc (.cells #[.slice (some ⟨w2.heap.size, 0, none⟩) 0 0] 84)) = W3 at *
  have HS := hid (And.intro hst (lack_k0 hG.out H2.out.2.2))
  clear hst hbw
  generalize hk : w2.heap.size + 1 = k at *
  generalize (some ⟨w2.heap.size, 0, none⟩ : Option Addr) = aoh at *
  generalize hB : w2.heap.size = B at *
  generalize hT : w1.heap.size = T at *
  clear hk hB
  go_loopg [6, 7, 20] n (fun gk x6 x7 x20 wr => ∃ (w3 : World) (a : Nat) (ao' : Option Addr) (m c' b' off' : Nat) (l : List Int), w3 = wr ∧ a ≤ n ∧ gk = n - a ∧ x20 = .int .i64 a ∧ Al T B k gl n w1 K ao' m c' b' off' l none 0 0 0 0 [] w3 ∧ K0 (insL L) a K l)
  case atStart => exact ⟨_, 0, _, 0, 0, 0, 0, [], rfl, Nat.zero_le _, rfl, rfl, HS.out.1, HS.out.2⟩
  case round =>
    obtain ⟨w3, a, ao', m, c', b', off', l, rfl, ha, rfl, rfl, hal, hk0⟩ := hrel
    have A1 := hid (And.intro hal hk0)
    clear hal hk0 HS
    by_cases hlt : a < n
    · have hltz : (a : Int) < (n : Int) := by omega
      have e0 := oi_nth0 A1.out.1.kk hlt
      have hmn : m ≤ 100000 := by have h1 := hp_len A1.out.1.hp; have h2 := k0_len A1.out.2; omega
      by_cases hz : nth K a = 0
      · have HZ := hid hz
        rw [hz] at e0
        clear hz
        go_wp2_with (first
          | (go_at_call 62; with_reducible refine Calls.mono (hpush_any B k _ m _ _ _ l (a : Int) _ A1.out.1.hp A1.out.1.heap A1.out.1.size ‹_›) ?_; rintro e w4 ⟨rfl, ⟨ao3, c3, b3, off3, l3, hp3, hh3, hperm3, hpl⟩, hb⟩; have A2 := hid (And.intro (al_push A1.out.1 hb hp3 hh3 hpl) hperm3); clear hp3 hh3 hperm3 hpl hb))
        go_roundg (n - (a + 1))
        case measure => omega
        case rel => exact ⟨_, a + 1, _, _, _, _, _, _, rfl, hlt, rfl, by simp, A2.out.1, k0_perm (k0_push A1.out.2 HZ.out) A2.out.2⟩
      · have HZ := hid hz
        go_wp2
        go_roundg (n - (a + 1))
        case measure => omega
        case rel => exact ⟨_, a + 1, _, _, _, _, _, _, rfl, hlt, rfl, by simp, A1.out.1, k0_step A1.out.2 HZ.out⟩
    · obtain rfl : a = n := by omega
      have hka := hid (k0_end (by rw [hG.out]; exact A1.out.2))
      go_wp2
      go_loopg [8, 9, 11] a (fun gk x8 x9 x11 wr => ∃ (w4 : World) (K : List Int) (ao' : Option Addr) (m c' b' off' : Nat) (l : List Int) (ao2 : Option Addr) (r c2 b2 o2 : Nat) (M : List Nat), w4 = wr ∧ r ≤ a ∧ gk = a - r ∧ x8 = .slice ao2 r c2 ∧ Al T B k gl a w1 K ao' m c' b' off' l ao2 r c2 b2 o2 M w4 ∧ Ka (insL L) M K l)
      case atStart => exact ⟨_, K, _, _, _, _, _, _, none, 0, 0, 0, 0, [], rfl, Nat.zero_le _, rfl, rfl, A1.out.1, hka.out⟩
      case round =>
        obtain ⟨w4, K', ao'', m, c', b', off', l, ao2, r, c2, b2, o2, M, rfl, hr, rfl, rfl, hal, hka'⟩ := hrel
        have A2 := hid (And.intro hal hka')
        have hc0 := hal.hp.cell
        have hml : m ≤ 1000 := by have h1 := hp_len hal.hp; have h2 := ka_len hka'; rw [hG.out] at h2; omega
        have hrM : M.length = r := by have := vi_len hal.li.v; rw [castL_len] at this; exact this
        have HM := hid hrM
        clear hal hka' hka A1 hrM
        by_cases hm0 : m = 0
        · subst hm0
          go_wp2_with (first
            | (go_at_call 63; with_reducible refine Calls.mono (len_any _ _ _ _ (by decide)) ?_; rintro e w5 ⟨rfl, hw⟩; replace hw := hw.symm; subst hw))
          go_ret
          have hl0 : l = [] := List.length_eq_zero_iff.1 (hp_len A2.out.1.hp)
          have hka2 := A2.out.2
          rw [hl0] at hka2
          have e := ka_none hka2
          have hlow := A2.out.1.low
          rw [← hT] at hlow
          have hTB := A2.out.1.TB
          exact ⟨⟨_, _, _, _, _, rfl, by rw [← e]; exact A2.out.1.li.mono (by have h1 := H1.out.2.2.size; omega)⟩, via (w := w) H1.out.2.2 hlow⟩
        · obtain ⟨m', rfl⟩ : ∃ m', m = m' + 1 := ⟨m - 1, by omega⟩
          have hmz : 0 < (((m' + 1 : Nat)) : Int) := by omega
          have hm1 : m' ≤ 100000 := by omega
          go_wp2_with (first
            | (go_at_call 63; with_reducible refine Calls.mono (len_any _ _ _ _ (Nat.le_trans hml (by decide))) ?_; rintro e w5 ⟨rfl, hw⟩; replace hw := hw.symm; subst hw)
            | (go_at_call 64; with_reducible refine Calls.mono (least_any B k _ m' _ _ _ l _ A2.out.1.hp A2.out.1.heap A2.out.1.size ‹_›) ?_; rintro e w5 ⟨⟨x, l2, rfl, hp2, hh2, hperm, hmin⟩, hb⟩; obtain ⟨q, rfl, hq, hroom, hkb⟩ := ka_pop A2.out.2 hperm hmin; have A3 := hid (al_pop A2.out.1 hb hp2 hh2); clear hp2 hh2 hperm hmin hb hc0; obtain ⟨b5, o5, hA⟩ := app28 A3.out.li A3.out.size (Nat.le_trans hr (Nat.le_trans hn (by decide))) (q : Int); have hF := app28_fine hA; have A4 := hid (And.intro (al_app A3.out q hA) hkb); obtain ⟨u, hu, hul⟩ := lv_get H1.out.2.1 hq; obtain ⟨-, u0, -, -⟩ := fs_at (fs_bel hT H1.out.1 A4.out.1.low) hu; rw [Nat.zero_add] at u0; have HU := hid (And.intro hu hul); have hqa := lt_cast hG.out hq; clear hA hkb hu hul))
          have hvi := (H1.out.1.v u (List.mem_of_getElem? HU.out.1)).v
          rw [HU.out.2] at hvi
          have hun : u.n = (usesG (insL L) q).length := by have := vi_len hvi; rw [castL_len] at this; omega
          have hu1 : u.n ≤ 1001 := by have := uses_len (insL L) q; rw [hG.out] at this; omega
          have HV := hid (And.intro hvi hun)
          have HR := hid (And.intro hroom hq)
          clear HU hvi hun hF hq hroom A3
          generalize apW Tryd.prog #[22, 22] 22 (w5.alloc (.cells #[.int .i64 (q : Int)] 3)) (.slice ao2 r c2) (.slice (some ⟨w5.heap.size, 0, none⟩) 1 1) = W6 at *
          generalize apA Tryd.prog #[22, 22] 22 (w5.alloc (.cells #[.int .i64 (q : Int)] 3)) (.slice ao2 r c2) (.slice (some ⟨w5.heap.size, 0, none⟩) 1 1) = A6 at *
          generalize apC Tryd.prog #[22, 22] 22 (w5.alloc (.cells #[.int .i64 (q : Int)] 3)) (.slice ao2 r c2) (.slice (some ⟨w5.heap.size, 0, none⟩) 1 1) = C6 at *
          generalize u.ao = ua at *
          generalize u.n = un at *
          generalize u.c = uc at *
          generalize u.b = ub at *
          generalize u.off = uo at *
          clear u A2
          go_loopg [11, 49] un (fun gk x11 x49 wr => ∃ (w7 : World) (j : Nat) (K : List Int) (ao' : Option Addr) (m c' b' off' : Nat) (l : List Int), w7 = wr ∧ j ≤ un ∧ gk = un - j ∧ x49 = .int .i64 j ∧ Al T B k gl a w1 K ao' m c' b' off' l A6 (r + 1) C6 b5 o5 (M ++ [q]) w7 ∧ Kb (insL L) M q j K l)
          case atStart => exact ⟨_, 0, K', _, _, _, _, _, _, rfl, Nat.zero_le _, rfl, rfl, A4.out.1, A4.out.2⟩
          case round =>
            obtain ⟨w7, j, K2, ao7, m7, c7, b7, off7, l7, rfl, hj, rfl, rfl, hal, hkb⟩ := hrel
            have A7 := hid (And.intro hal hkb)
            clear hal hkb A4 u0
            by_cases hjlt : j < un
            · have hjlz : (j : Int) < (un : Int) := by omega
              obtain ⟨t, ht⟩ : ∃ t, (usesG (insL L) q)[j]? = some t := ⟨_, List.getElem?_eq_getElem (by rw [← HV.out.2]; exact hjlt)⟩
              obtain ⟨rfl, e0⟩ := vi_at (vi_bel hT HV.out.1 A7.out.1.low) (castL_get ht)
              obtain ⟨t1, t2, t3, t4, -⟩ := kb_user A7.out.2 ht
              rw [hG.out] at t1 t3
              have htz : (t : Int) < (a : Int) := by omega
              have e1 := oi_nth0 A7.out.1.kk t1
              have e2 := oi_fz0 A7.out.1.kk t1
              have hm7 : m7 ≤ 100000 := by have h1 := hp_len A7.out.1.hp; have h2 := kb_len A7.out.2; rw [hG.out] at h2; omega
              have HT := hid ht
              clear ht
              by_cases hz : nth K2 t - 1 = 0
              · have hs := al_less A7.out.1 t1 (nth K2 t - 1)
                have hp := kb_push A7.out.2 HT.out hz
                rw [hz] at hs hp
                have HP := hid (And.intro hs hp)
                clear hs hp
                go_wp2_with (first
                  | (go_at_call 62; with_reducible refine Calls.mono (hpush_any B k _ m7 _ _ _ l7 (t : Int) _ HP.out.1.hp HP.out.1.heap HP.out.1.size ‹_›) ?_; rintro e w8 ⟨rfl, ⟨ao3, c3, b3, off3, l3, hp3, hh3, hperm3, hpl⟩, hb⟩; have A8 := hid (And.intro (al_push HP.out.1 hb hp3 hh3 hpl) hperm3); clear hp3 hh3 hperm3 hpl hb))
                go_roundg (un - (j + 1))
                case measure => omega
                case rel => exact ⟨_, j + 1, _, _, _, _, _, _, _, rfl, hjlt, rfl, by simp, A8.out.1, kb_perm HP.out.2 A8.out.2⟩
              · have HP := hid (And.intro (al_less A7.out.1 t1 (nth K2 t - 1)) (kb_step A7.out.2 HT.out hz))
                go_wp2
                go_roundg (un - (j + 1))
                case measure => omega
                case rel => exact ⟨_, j + 1, _, _, _, _, _, _, _, rfl, hjlt, rfl, by simp, HP.out.1, HP.out.2⟩
            · obtain rfl : j = un := by omega
              go_wp2
              go_roundg (a - (r + 1))
              case measure => have h1 := HR.out.1; have h2 := HM.out; have h3 := hG.out; omega
              case rel => exact ⟨_, _, _, _, _, _, _, _, _, r + 1, _, _, _, _, rfl, by have h1 := HR.out.1; have h2 := HM.out; have h3 := hG.out; omega, rfl, rfl, A7.out.1, kb_end (by rw [← HV.out.2]; exact A7.out.2)⟩
end Go.Proofs.YtamojciiacmjaaaDoor
