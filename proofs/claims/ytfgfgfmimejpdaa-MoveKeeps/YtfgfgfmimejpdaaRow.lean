/- A row of a buffer, and whether a buffer is right: contracts. -/
import Derived.Test.YtfgfgfmimejpdaaSmall
namespace Go.Proofs.Ytfgfgfmimejpdaa
open Num Go.RowKit
set_option linter.unusedVariables false
set_option linter.unusedSimpArgs false
attribute [local go_sem ↓] eqR

set_option maxHeartbeats 1000000 in
theorem row_any (a b c d : Int) (g off n m : Nat) (x0 x1 y : Int) (s q k : Nat) (w : World) (ho : Ok ⟨a, b, c, d⟩) (hx0 : -4398046511104 ≤ x0 ∧ x0 ≤ 4398046511104) (hx1 : -4398046511104 ≤ x1 ∧ x1 ≤ 4398046511104) (hy : -4398046511104 ≤ y ∧ y ≤ 4398046511104)
    (hs : (y - b) * (c - a) = (s : Int)) (hq : (s : Int) + x0 - a = (q : Int)) (hk : (s : Int) + x1 - a = (q : Int) + (k : Int)) (hsn : s ≤ 1000000) (hkn : q + k ≤ n) (hnm : n ≤ m) (hm : m ≤ maxLen) (hk0 : 0 < k) :
    Calls Try.prog 85 #[.agg #[.int .i64 a, .int .i64 b, .int .i64 c, .int .i64 d, .slice (some ⟨g, off, none⟩) n m], .int .i64 x0, .int .i64 x1, .int .i64 y] w fun e w' => e = .returned (.slice (some ⟨g, off + q * 4, none⟩) k (m - q)) ∧ Below w.heap.size w w' := by
  obtain ⟨⟨a0, a1⟩, ⟨b0, b1⟩, ⟨c0, c1⟩, d0, d1⟩ := ho
  dsimp only at a0 a1 b0 b1 c0 c1 d0 d1
  obtain ⟨u0, u1⟩ := hx0
  obtain ⟨v0, v1⟩ := hx1
  obtain ⟨y0, y1⟩ := hy
  have z1 : (q : Int) ≤ (q : Int) + (k : Int) := by omega
  have z2 : (q : Int) + (k : Int) ≤ (m : Int) := by omega
  have z3 : ¬ m = q := by omega
  have z4 : ((q : Int) + (k : Int)).toNat = q + k := by omega
  simp only [maxLen] at hm
  go_enter Try.func85, Try.ntmps85
  go_wp2
  go_ret
  exact ⟨rfl, by go_grown⟩
end Go.Proofs.Ytfgfgfmimejpdaa
