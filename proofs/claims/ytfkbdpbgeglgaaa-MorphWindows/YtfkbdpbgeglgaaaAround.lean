/- The document's least and greatest around a point: the contract. -/
import Derived.Test.YtfkbdpbgeglgaaaSight
import Derived.Test.YtfkbdpbgeglgaaaAtB
namespace Go.Proofs.Ytfkbdpbgeglgaaa
open Num Go.RowKit
set_option linter.unusedVariables false
set_option linter.unusedSimpArgs false

/-- what is told so far of a window -/
structure Ac (t : Bool) (U : Int → Int → Int) (x y : Int) (rx ry : Nat) (u v o : Int) : Prop where
  one : ∃ a b, x - (rx : Int) ≤ a ∧ a < x + (rx : Int) + 1 ∧ y - (ry : Int) ≤ b ∧ b < y + (ry : Int) + 1 ∧ U a b = o
  all : ∀ a b, x - (rx : Int) ≤ a → a < x + (rx : Int) + 1 → y - (ry : Int) ≤ b → (b < v ∨ (b = v ∧ a < u)) → leT t (U a b) o
theorem ac_first (t : Bool) (U : Int → Int → Int) (x y : Int) (rx ry : Nat) : Ac t U x y rx ry (x - (rx : Int)) (y - (ry : Int)) (U x y) :=
  ⟨⟨x, y, by omega, by omega, by omega, by omega, rfl⟩, fun a b h1 h2 h3 h4 => by omega⟩
theorem Ac.take {t : Bool} {U : Int → Int → Int} {x y : Int} {rx ry : Nat} {u v o : Int} (h : Ac t U x y rx ry u v o) (h1 : x - (rx : Int) ≤ u ∧ u < x + (rx : Int) + 1) (h2 : y - (ry : Int) ≤ v ∧ v < y + (ry : Int) + 1) (ho : leT t o (U u v)) : Ac t U x y rx ry (u + 1) v (U u v) := by
  refine ⟨⟨u, v, h1.1, h1.2, h2.1, h2.2, rfl⟩, fun a b a1 a2 a3 a4 => ?_⟩
  by_cases e : b = v ∧ a = u
  · rw [e.1, e.2]
    exact leT_refl _ _
  · exact leT_trans (h.all a b a1 a2 a3 (by omega)) ho
theorem Ac.keep {t : Bool} {U : Int → Int → Int} {x y : Int} {rx ry : Nat} {u v o : Int} (h : Ac t U x y rx ry u v o) (ho : leT t (U u v) o) : Ac t U x y rx ry (u + 1) v o := by
  refine ⟨h.one, fun a b a1 a2 a3 a4 => ?_⟩
  by_cases e : b = v ∧ a = u
  · rw [e.1, e.2]
    exact ho
  · exact h.all a b a1 a2 a3 (by omega)
theorem Ac.row {t : Bool} {U : Int → Int → Int} {x y : Int} {rx ry : Nat} {v o : Int} (h : Ac t U x y rx ry (x + (rx : Int) + 1) v o) : Ac t U x y rx ry (x - (rx : Int)) (v + 1) o :=
  ⟨h.one, fun a b a1 a2 a3 a4 => h.all a b a1 a2 a3 (by omega)⟩
theorem Ac.last {t : Bool} {U : Int → Int → Int} {x y : Int} {rx ry : Nat} {u o : Int} (h : Ac t U x y rx ry u (y + (ry : Int) + 1) o) : mor1 t U rx ry x y = o :=
  mor_eq ⟨h.one, fun a b a1 a2 a3 a4 => h.all a b a1 a2 a3 (.inl a4)⟩

set_option maxRecDepth 100000 in
set_option maxHeartbeats 4000000 in
theorem around_any (B : R) (ao : Option Addr) (n m g off : Nat) (f : Int → Int → X) (x y : Int) (rx ry i : Nat) (t : Bool) (w : World) (ho : Ok B) (hn : n ≤ 1000000) (hV : Vx w ao n m g off (img B f)) (hx : -34000000 ≤ x ∧ x ≤ 34000000) (hy : -34000000 ≤ y ∧ y ≤ 34000000) (hrx : rx ≤ 255) (hry : ry ≤ 255) (hi : i < 4) :
    Calls Try.prog 26 #[.agg #[.int .i64 B.x0, .int .i64 B.y0, .int .i64 B.x1, .int .i64 B.y1, .slice ao n m], .int .i64 x, .int .i64 y, .int .i64 (rx : Int), .int .i64 (ry : Int), .int .i64 (i : Int), .bool (!t)] w fun e w' => e = .returned (.int .u8 (mor1 t (fun u v => chn i (atX B f u v)) rx ry x y)) ∧ Below w.heap.size w w' := by
  obtain ⟨U, hU⟩ : ∃ U : Int → Int → Int, U = fun u v => chn i (atX B f u v) := ⟨_, rfl⟩
  have HU : Hid (∀ u v, chn i (atX B f u v) = U u v) := fun u v => by rw [hU]
  rw [← hU]
  have HH := hid (And.intro hV (And.intro ho hn))
  obtain ⟨x0, x1⟩ := hx
  obtain ⟨y0, y1⟩ := hy
  have HB : Hid (Has5 (w.alloc (.cells #[.int .i64 B.x0, .int .i64 B.y0, .int .i64 B.x1, .int .i64 B.y1, .slice ao n m] 26)) w.heap.size B ao n m ∧ Below w.heap.size w (w.alloc (.cells #[.int .i64 B.x0, .int .i64 B.y0, .int .i64 B.x1, .int .i64 B.y1, .slice ao n m] 26))) := ⟨Has5.new rfl _ _ _ _ _ _ _ _, (Below.refl _ _).alloc (Nat.le_refl _) _⟩
  have hix := fun p w => index_n p hi w
  obtain ⟨b0, b1, b2, b3, b4, bf⟩ := HB.out.1
  clear hU hV ho
  go_enter Try.func26, Try.ntmps26
  go_wp2_with (go_at_call 15; with_reducible refine Calls.mono (refAt_any B ao n m g off f x y _ HH.out.2.1 HH.out.2.2 (by omega) (by omega) (HH.out.1.below HB.out.2)) ?_; rintro e w1 ⟨rfl, hb1⟩; have HB1 := hid (And.intro (HB.out.1.below hb1) (Rc.via HB.out.2 hb1)); clear hb1)
  rw [HU.out]
  clear b0 b1 b2 b3 b4 bf
  go_loopg [15, 16] (2 * ry + 1) (fun gh v15 v16 wr => ∃ v o, y - (ry : Int) ≤ v ∧ v ≤ y + (ry : Int) + 1 ∧ gh = (y + (ry : Int) + 1 - v).toNat ∧ v15 = .int .u8 o ∧ v16 = .int .i64 v ∧ Ac t U x y rx ry (x - (rx : Int)) v o ∧ Has5 wr w.heap.size B ao n m ∧ Below w.heap.size w wr)
  case atStart => exact ⟨y - (ry : Int), U x y, Int.le_refl _, by omega, by omega, rfl, rfl, ac_first t U x y rx ry, HB1.out.1, HB1.out.2⟩
  case round =>
    clear HB1
    obtain ⟨v, o, hv0, hv1, rfl, rfl, rfl, hac, hB5, hlow⟩ := hrel
    have HA := hid hac
    have HW := hid (And.intro hB5 hlow)
    clear hac hB5 hlow
    by_cases hlt : v ≤ y + (ry : Int)
    · go_wp2
      go_loopg [15, 17] (2 * rx + 1) (fun gh v15 v17 wr => ∃ u o, x - (rx : Int) ≤ u ∧ u ≤ x + (rx : Int) + 1 ∧ gh = (x + (rx : Int) + 1 - u).toNat ∧ v15 = .int .u8 o ∧ v17 = .int .i64 u ∧ Ac t U x y rx ry u v o ∧ Has5 wr w.heap.size B ao n m ∧ Below w.heap.size w wr)
      case atStart => exact ⟨x - (rx : Int), o, Int.le_refl _, by omega, by omega, rfl, rfl, HA.out, HW.out.1, HW.out.2⟩
      case round =>
        clear HA HW o
        obtain ⟨u, o, hu0, hu1, rfl, rfl, rfl, hac, hB5, hlow⟩ := hrel
        have HA := hid hac
        have HW := hid (And.intro hB5 hlow)
        by_cases hltu : u ≤ x + (rx : Int)
        · obtain ⟨b0, b1, b2, b3, b4, bf⟩ := hB5
          clear hac hlow
          obtain ⟨c, hc⟩ : ∃ c, c = U u v := ⟨_, rfl⟩
          have HC : Hid (U u v = c) := hc.symm
          clear hc
          cases t with
          | false =>
            by_cases hgt : o < c
            · have hg1 : decide (o < c) = true := decide_eq_true hgt
              go_wp2_with (go_at_call 15; with_reducible refine Calls.mono (refAt_any B ao n m g off f u v _ HH.out.2.1 HH.out.2.2 (by omega) (by omega) (HH.out.1.below HW.out.2)) ?_; rintro e w2 ⟨rfl, hb2⟩; have HW2 := hid (And.intro (HW.out.1.below hb2) (Rc.via HW.out.2 hb2)); clear hb2; have hcu := (HU.out u v).trans HC.out)
              go_roundg (x + (rx : Int) + 1 - (u + 1)).toNat
              case measure => omega
              case rel => exact ⟨u + 1, c, by omega, by omega, rfl, rfl, rfl, (by have := HA.out.take ⟨hu0, by omega⟩ ⟨hv0, by omega⟩ (by rw [HC.out]; show o ≤ c; omega); rwa [HC.out] at this), HW2.out.1, HW2.out.2⟩
            · have hg1 : decide (o < c) = false := decide_eq_false hgt
              go_wp2_with (go_at_call 15; with_reducible refine Calls.mono (refAt_any B ao n m g off f u v _ HH.out.2.1 HH.out.2.2 (by omega) (by omega) (HH.out.1.below HW.out.2)) ?_; rintro e w2 ⟨rfl, hb2⟩; have HW2 := hid (And.intro (HW.out.1.below hb2) (Rc.via HW.out.2 hb2)); clear hb2; have hcu := (HU.out u v).trans HC.out)
              go_roundg (x + (rx : Int) + 1 - (u + 1)).toNat
              case measure => omega
              case rel => exact ⟨u + 1, o, by omega, by omega, rfl, rfl, rfl, HA.out.keep (by rw [HC.out]; show c ≤ o; omega), HW2.out.1, HW2.out.2⟩
          | true =>
            by_cases hgt : c < o
            · have hg1 : decide (c < o) = true := decide_eq_true hgt
              go_wp2_with (go_at_call 15; with_reducible refine Calls.mono (refAt_any B ao n m g off f u v _ HH.out.2.1 HH.out.2.2 (by omega) (by omega) (HH.out.1.below HW.out.2)) ?_; rintro e w2 ⟨rfl, hb2⟩; have HW2 := hid (And.intro (HW.out.1.below hb2) (Rc.via HW.out.2 hb2)); clear hb2; have hcu := (HU.out u v).trans HC.out)
              go_roundg (x + (rx : Int) + 1 - (u + 1)).toNat
              case measure => omega
              case rel => exact ⟨u + 1, c, by omega, by omega, rfl, rfl, rfl, (by have := HA.out.take ⟨hu0, by omega⟩ ⟨hv0, by omega⟩ (by rw [HC.out]; show c ≤ o; omega); rwa [HC.out] at this), HW2.out.1, HW2.out.2⟩
            · have hg1 : decide (c < o) = false := decide_eq_false hgt
              go_wp2_with (go_at_call 15; with_reducible refine Calls.mono (refAt_any B ao n m g off f u v _ HH.out.2.1 HH.out.2.2 (by omega) (by omega) (HH.out.1.below HW.out.2)) ?_; rintro e w2 ⟨rfl, hb2⟩; have HW2 := hid (And.intro (HW.out.1.below hb2) (Rc.via HW.out.2 hb2)); clear hb2; have hcu := (HU.out u v).trans HC.out)
              go_roundg (x + (rx : Int) + 1 - (u + 1)).toNat
              case measure => omega
              case rel => exact ⟨u + 1, o, by omega, by omega, rfl, rfl, rfl, HA.out.keep (by rw [HC.out]; show o ≤ c; omega), HW2.out.1, HW2.out.2⟩
        · obtain rfl : u = x + (rx : Int) + 1 := by omega
          clear hac hlow hB5
          go_wp2
          go_roundg (y + (ry : Int) + 1 - (v + 1)).toNat
          case measure => omega
          case rel => exact ⟨v + 1, o, by omega, by omega, rfl, rfl, rfl, HA.out.row, HW.out.1, HW.out.2⟩
    · obtain rfl : v = y + (ry : Int) + 1 := by omega
      go_wp2
      go_ret
      exact ⟨ret_int HA.out.last.symm, HW.out.2⟩
end Go.Proofs.Ytfkbdpbgeglgaaa
