/- Whether two buffers are the same: the contract. -/
import Derived.Test.YtfgfgfmimejpdaaSmall
import Derived.Deep.LoopGhost
import Derived.Deep.Light
namespace Go.Proofs.Ytfgfgfmimejpdaa
open Num Go.RowKit
set_option linter.unusedVariables false
set_option linter.unusedSimpArgs false
attribute [local go_sem ↓] eqR

/-- two pixels that are the same are equal -/
theorem eqPx (r g b a : Int) (w : World) : (Op.equalIn 10000 28 (.agg #[.int .u8 r, .int .u8 g, .int .u8 b, .int .u8 a]) (.agg #[.int .u8 r, .int .u8 g, .int .u8 b, .int .u8 a])).run Try.prog w = .ok true w := by
  have u3 := Try.underlying5
  have a3 := Try.isAgg5
  have z3 := Try.sizeOf5
  rw [show (10000 : Nat) = 9999 + 1 from rfl, Op.equalIn]
  simp only [Sem.run_bind, run_underlying Try.underlying28, Result.andThen_ok]
  simp only [Std.Legacy.Range.forIn_eq_forIn_range', Std.Legacy.Range.size, Nat.sub_zero, Nat.add_sub_cancel, Nat.div_one, List.range'_succ, List.range'_zero, List.forIn_cons, List.forIn_nil]
  go_simp
attribute [local go_sem ↓] eqPx
attribute [local go_sem] eq4_same

set_option maxRecDepth 100000 in
set_option maxHeartbeats 1000000 in
theorem same_yes (B : R) (ao : Option Addr) (n c b off : Nat) (ao' : Option Addr) (c' b' off' : Nat) (l : List X) (w : World) (h : Vx w ao n c b off l) (h' : Vx w ao' n c' b' off' l) :
    Calls Try.prog 17 #[.agg #[.int .i64 B.x0, .int .i64 B.y0, .int .i64 B.x1, .int .i64 B.y1, .slice ao n c], .agg #[.int .i64 B.x0, .int .i64 B.y0, .int .i64 B.x1, .int .i64 B.y1, .slice ao' n c']] w fun e w' => e = .returned (.bool true) ∧ Below w.heap.size w w' := by
  have hn := vx_small h
  have HV := hid (And.intro h h')
  have hl := hid (vx_len h)
  clear h h'
  have hA : Has5 ((w.alloc (.cells #[.int .i64 B.x0, .int .i64 B.y0, .int .i64 B.x1, .int .i64 B.y1, .slice ao n c] 26)).alloc (.cells #[.int .i64 B.x0, .int .i64 B.y0, .int .i64 B.x1, .int .i64 B.y1, .slice ao' n c'] 26)) w.heap.size B ao n c := (Has5.new rfl _ _ _ _ _ _ _ _).alloc _
  have hC : Has5 ((w.alloc (.cells #[.int .i64 B.x0, .int .i64 B.y0, .int .i64 B.x1, .int .i64 B.y1, .slice ao n c] 26)).alloc (.cells #[.int .i64 B.x0, .int .i64 B.y0, .int .i64 B.x1, .int .i64 B.y1, .slice ao' n c'] 26)) (w.heap.size + 1) B ao' n c' := Has5.new (by simp) _ _ _ _ _ _ _ _
  have hB : Below w.heap.size w ((w.alloc (.cells #[.int .i64 B.x0, .int .i64 B.y0, .int .i64 B.x1, .int .i64 B.y1, .slice ao n c] 26)).alloc (.cells #[.int .i64 B.x0, .int .i64 B.y0, .int .i64 B.x1, .int .i64 B.y1, .slice ao' n c'] 26)) := ((Below.refl _ _).alloc (Nat.le_refl _) _).alloc (by simp) _
  have HS := hid (And.intro hA (And.intro hC hB))
  clear hA hC hB
  go_enter Try.func17, Try.ntmps17
  go_wp2
  go_loopg [5] n (fun g i wr => ∃ k : Nat, k ≤ n ∧ g = n - k ∧ i = .int .i64 k ∧ Has5 wr w.heap.size B ao n c ∧ Has5 wr (w.heap.size + 1) B ao' n c' ∧ Below w.heap.size w wr)
  case atStart => exact ⟨0, Nat.zero_le _, rfl, rfl, HS.out.1, HS.out.2.1, HS.out.2.2⟩
  case round =>
    clear HS
    obtain ⟨k, hk, rfl, rfl, hA, hC, hB⟩ := hrel
    have HS := hid (And.intro hA (And.intro hC hB))
    obtain ⟨-, -, -, -, a4, -⟩ := hA
    obtain ⟨-, -, -, -, e4, -⟩ := hC
    by_cases hlt : k < n
    · have hlz : (k : Int) < (n : Int) := by omega
      obtain ⟨r, hr⟩ : ∃ s, l[k]? = some s := ⟨_, List.getElem?_eq_getElem (by rw [hl.out]; exact hlt)⟩
      obtain ⟨rfl, h0, h1, h2, h3⟩ := vx_at (HV.out.1.below hB) hr
      obtain ⟨rfl, g0, g1, g2, g3⟩ := vx_at (HV.out.2.below hB) hr
      clear hr hB
      go_wp2
      go_quiet (fail)
      go_wp2
      go_roundg (n - (k + 1))
      case measure => omega
      case rel => exact ⟨k + 1, hlt, rfl, by simp, HS.out.1.below (below_drewN (Below.refl _ _) _), HS.out.2.1.below (below_drewN (Below.refl _ _) _), below_drewN HS.out.2.2 _⟩
    · obtain rfl : n = k := by omega
      go_wp2
      go_ret
      exact ⟨rfl, hB⟩
end Go.Proofs.Ytfgfgfmimejpdaa
