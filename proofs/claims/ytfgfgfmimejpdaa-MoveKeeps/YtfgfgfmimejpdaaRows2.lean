/- Rows of buffers, by the code of raster and of move: contracts. -/
import Derived.Test.YtfgfgfmimejpdaaPuts
namespace Go.Proofs.Ytfgfgfmimejpdaa
open Num Go.RowKit
set_option linter.unusedVariables false
set_option linter.unusedSimpArgs false
attribute [local go_sem ↓] eqR

set_option maxHeartbeats 1000000 in
theorem rrow_any (a b c d : Int) (g off n m : Nat) (x0 x1 y : Int) (s q k : Nat) (w : World) (ho : Ok ⟨a, b, c, d⟩) (hx0 : -4398046511104 ≤ x0 ∧ x0 ≤ 4398046511104) (hx1 : -4398046511104 ≤ x1 ∧ x1 ≤ 4398046511104) (hy : -4398046511104 ≤ y ∧ y ≤ 4398046511104)
    (hs : (y - b) * (c - a) = (s : Int)) (hq : (s : Int) + x0 - a = (q : Int)) (hk : (s : Int) + x1 - a = (q : Int) + (k : Int)) (hsn : s ≤ 1000000) (hkn : q + k ≤ n) (hnm : n ≤ m) (hm : m ≤ maxLen) (hk0 : 0 < k) :
    Calls Try.prog 67 #[.agg #[.int .i64 a, .int .i64 b, .int .i64 c, .int .i64 d, .slice (some ⟨g, off, none⟩) n m], .int .i64 x0, .int .i64 x1, .int .i64 y] w fun e w' => e = .returned (.slice (some ⟨g, off + q * 4, none⟩) k (m - q)) ∧ Below w.heap.size w w' := by
  obtain ⟨⟨a0, a1⟩, ⟨b0, b1⟩, ⟨c0, c1⟩, d0, d1⟩ := ho
  dsimp only at a0 a1 b0 b1 c0 c1 d0 d1
  obtain ⟨u0, u1⟩ := hx0
  obtain ⟨v0, v1⟩ := hx1
  obtain ⟨y0, y1⟩ := hy
  have z1 : (q : Int) ≤ (q : Int) + (k : Int) := by omega
  have z2 : (q : Int) + (k : Int) ≤ (m : Int) := by omega
  have z3 : ¬ m = q := by omega
  have z4 : ((q : Int) + (k : Int)).toNat = q + k := by omega
  simp only [maxLen] at hm
  go_enter Try.func67, Try.ntmps67
  go_wp2
  go_ret
  exact ⟨rfl, by go_grown⟩

/-- a row of a right buffer -/
theorem rrow_of (B : R) (g off n m : Nat) (x0 x1 y : Int) (w : World) (ho : Ok B) (hn : n = wid B * hei B) (hn5 : n ≤ 5000) (hnm : n ≤ m) (hm : m ≤ maxLen) (hi : In B x0 x1 y) (hlt : x0 < x1) :
    Calls Try.prog 67 #[.agg #[.int .i64 B.x0, .int .i64 B.y0, .int .i64 B.x1, .int .i64 B.y1, .slice (some ⟨g, off, none⟩) n m], .int .i64 x0, .int .i64 x1, .int .i64 y] w fun e w' => e = .returned (.slice (some ⟨g, off + posN B x0 y * 4, none⟩) (x1 - x0).toNat (m - posN B x0 y)) ∧ Below w.heap.size w w' := by
  have he := pos_end ⟨hi.y0, hi.y1⟩ hi.x0 hi.le hi.x1
  obtain ⟨y0, y1, z0, z1, z2⟩ := hi
  obtain ⟨⟨a0, a1⟩, ⟨b0, b1⟩, ⟨c0, c1⟩, d0, d1⟩ := id ho
  have hp := pos_int (B := B) (x := x0) (y := y) z0 y0 (by omega)
  have hs : (y - B.y0) * (B.x1 - B.x0) = (((y - B.y0) * (B.x1 - B.x0)).toNat : Int) := by
    have := Int.mul_nonneg (a := y - B.y0) (b := B.x1 - B.x0) (by omega) (by omega)
    omega
  exact rrow_any B.x0 B.y0 B.x1 B.y1 g off n m x0 x1 y ((y - B.y0) * (B.x1 - B.x0)).toNat (posN B x0 y) (x1 - x0).toNat w ho (by omega) (by omega) (by omega) hs (by omega) (by omega) (by omega) (by omega) hnm hm (by omega)

set_option maxHeartbeats 1000000 in
theorem mrow_any (a b c d : Int) (g off n m : Nat) (x0 x1 y : Int) (s q k : Nat) (w : World) (ho : Ok ⟨a, b, c, d⟩) (hx0 : -4398046511104 ≤ x0 ∧ x0 ≤ 4398046511104) (hx1 : -4398046511104 ≤ x1 ∧ x1 ≤ 4398046511104) (hy : -4398046511104 ≤ y ∧ y ≤ 4398046511104)
    (hs : (y - b) * (c - a) = (s : Int)) (hq : (s : Int) + x0 - a = (q : Int)) (hk : (s : Int) + x1 - a = (q : Int) + (k : Int)) (hsn : s ≤ 1000000) (hkn : q + k ≤ n) (hnm : n ≤ m) (hm : m ≤ maxLen) (hk0 : 0 < k) :
    Calls Try.prog 45 #[.agg #[.int .i64 a, .int .i64 b, .int .i64 c, .int .i64 d, .slice (some ⟨g, off, none⟩) n m], .int .i64 x0, .int .i64 x1, .int .i64 y] w fun e w' => e = .returned (.slice (some ⟨g, off + q * 4, none⟩) k (m - q)) ∧ Below w.heap.size w w' := by
  obtain ⟨⟨a0, a1⟩, ⟨b0, b1⟩, ⟨c0, c1⟩, d0, d1⟩ := ho
  dsimp only at a0 a1 b0 b1 c0 c1 d0 d1
  obtain ⟨u0, u1⟩ := hx0
  obtain ⟨v0, v1⟩ := hx1
  obtain ⟨y0, y1⟩ := hy
  have z1 : (q : Int) ≤ (q : Int) + (k : Int) := by omega
  have z2 : (q : Int) + (k : Int) ≤ (m : Int) := by omega
  have z3 : ¬ m = q := by omega
  have z4 : ((q : Int) + (k : Int)).toNat = q + k := by omega
  simp only [maxLen] at hm
  go_enter Try.func45, Try.ntmps45
  go_wp2
  go_ret
  exact ⟨rfl, by go_grown⟩

/-- a row of a right buffer -/
theorem mrow_of (B : R) (g off n m : Nat) (x0 x1 y : Int) (w : World) (ho : Ok B) (hn : n = wid B * hei B) (hn5 : n ≤ 5000) (hnm : n ≤ m) (hm : m ≤ maxLen) (hi : In B x0 x1 y) (hlt : x0 < x1) :
    Calls Try.prog 45 #[.agg #[.int .i64 B.x0, .int .i64 B.y0, .int .i64 B.x1, .int .i64 B.y1, .slice (some ⟨g, off, none⟩) n m], .int .i64 x0, .int .i64 x1, .int .i64 y] w fun e w' => e = .returned (.slice (some ⟨g, off + posN B x0 y * 4, none⟩) (x1 - x0).toNat (m - posN B x0 y)) ∧ Below w.heap.size w w' := by
  have he := pos_end ⟨hi.y0, hi.y1⟩ hi.x0 hi.le hi.x1
  obtain ⟨y0, y1, z0, z1, z2⟩ := hi
  obtain ⟨⟨a0, a1⟩, ⟨b0, b1⟩, ⟨c0, c1⟩, d0, d1⟩ := id ho
  have hp := pos_int (B := B) (x := x0) (y := y) z0 y0 (by omega)
  have hs : (y - B.y0) * (B.x1 - B.x0) = (((y - B.y0) * (B.x1 - B.x0)).toNat : Int) := by
    have := Int.mul_nonneg (a := y - B.y0) (b := B.x1 - B.x0) (by omega) (by omega)
    omega
  exact mrow_any B.x0 B.y0 B.x1 B.y1 g off n m x0 x1 y ((y - B.y0) * (B.x1 - B.x0)).toNat (posN B x0 y) (x1 - x0).toNat w ho (by omega) (by omega) (by omega) hs (by omega) (by omega) (by omega) (by omega) hnm hm (by omega)

end Go.Proofs.Ytfgfgfmimejpdaa
