/- Whether parameters are within bounds, by the document: contracts. -/
import Derived.Test.YtleclkjinkbebaaDoorRefs
namespace Go.Proofs.YtleclkjinkbebaaDoor
open Num Go.RowKit
set_option linter.unusedVariables false
set_option linter.unusedSimpArgs false

/-- near, of a part of a list that stands -/
structure NearAt (w0 : World) (ao : Option Addr) (n c : Nat) (S T lo hi : Int) (v : Bool) : Prop where
  call : ∀ W, Below w0.heap.size w0 W → Calls Tryd.prog 17 #[.slice ao n c, .int .i64 S, .int .i64 T, .int .i64 lo, .int .i64 hi] W fun e w' => e = .returned (.bool v) ∧ w' = W
theorem near_at {w0 : World} {ao : Option Addr} {n c b off : Nat} {l : List Int} (h : Vi w0 ao n c b off l) (s t : Nat) {S T : Int} (hS : S = (s : Int)) (hT : T = (t : Int)) (hst : s ≤ t) (htn : t ≤ n) (lo hi : Int) {v : Bool} (hv : nearB l s (t - s) lo hi = v) : NearAt w0 ao n c S T lo hi v := by
  subst hS hT hv
  exact ⟨fun W hb => refNear_any ao n c b off l s t lo hi W (h.below hb) hst htn⟩
theorem NearAt.quiet {w0 : World} {ao : Option Addr} {n c : Nat} {S T lo hi : Int} {v : Bool} (h : NearAt w0 ao n c S T lo hi v) (k : Nat) : Calls Tryd.prog 17 #[.slice ao n c, .int .i64 S, .int .i64 T, .int .i64 lo, .int .i64 hi] (w0.drewN k) fun e w' => e = .returned (.bool v) ∧ w' = w0.drewN k :=
  h.call _ (below_drewN (Below.refl _ _) k)
/-- four cells stand -/
abbrev S4 (w1 : World) (b1 o1 : Nat) (v1 : Value) (b2 o2 : Nat) (v2 : Value) (b3 o3 : Nat) (v3 : Value) (b4 o4 : Nat) (v4 : Value) (w' : World) : Prop := (w'.cell? ⟨b1, o1, none⟩ = some v1 ∧ w'.cell? ⟨b2, o2, none⟩ = some v2 ∧ w'.cell? ⟨b3, o3, none⟩ = some v3 ∧ w'.cell? ⟨b4, o4, none⟩ = some v4) ∧ Below w1.heap.size w1 w'
section
variable {w1 : World} {b1 o1 : Nat} {v1 : Value} {b2 o2 : Nat} {v2 : Value} {b3 o3 : Nat} {v3 : Value} {b4 o4 : Nat} {v4 : Value} {w' : World}
theorem s4_drew (h : S4 w1 b1 o1 v1 b2 o2 v2 b3 o3 v3 b4 o4 v4 w') : S4 w1 b1 o1 v1 b2 o2 v2 b3 o3 v3 b4 o4 v4 w'.drew := ⟨h.1, h.2.drew⟩
theorem s4_below {w2 : World} (h : S4 w1 b1 o1 v1 b2 o2 v2 b3 o3 v3 b4 o4 v4 w') (hb : Below w'.heap.size w' w2) : S4 w1 b1 o1 v1 b2 o2 v2 b3 o3 v3 b4 o4 v4 w2 :=
  ⟨⟨cell_below hb h.1.1, cell_below hb h.1.2.1, cell_below hb h.1.2.2.1, cell_below hb h.1.2.2.2⟩, via (w := w1) h.2 hb⟩
theorem near_s {ao : Option Addr} {n c : Nat} {S T lo hi : Int} {v : Bool} (h : NearAt w1 ao n c S T lo hi v) (hs : S4 w1 b1 o1 v1 b2 o2 v2 b3 o3 v3 b4 o4 v4 w') : Calls Tryd.prog 17 #[.slice ao n c, .int .i64 S, .int .i64 T, .int .i64 lo, .int .i64 hi] w' fun e w2 => e = .returned (.bool v) ∧ w2 = w' := h.call w' hs.2
theorem tone_s {r g b a : Int} {v : Bool} (hv : rightB r g b a = v) (hr : 0 ≤ r ∧ r ≤ 255) (hg : 0 ≤ g ∧ g ≤ 255) (hb : 0 ≤ b ∧ b ≤ 255) (ha : 0 ≤ a ∧ a ≤ 255) (hs : S4 w1 b1 o1 v1 b2 o2 v2 b3 o3 v3 b4 o4 v4 w') :
    Calls Tryd.prog 38 #[.agg #[.int .u8 r, .int .u8 g, .int .u8 b, .int .u8 a]] w' fun e w2 => e = .returned (.bool v) ∧ Below w'.heap.size w' w2 := by
  subst hv
  exact refTone_any r g b a w' hr hg hb ha
end

set_option maxRecDepth 100000 in
set_option maxHeartbeats 2000000 in
theorem refPixel_any (ao : Option Addr) (n c b off : Nat) (l : List Int) (s : Nat) (w : World) (h : Vi w ao n c b off l) (hs : s + 4 ≤ n) :
    Calls Tryd.prog 30 #[.slice ao n c, .int .i64 (s : Int)] w fun e w' => e = .returned (.bool (nearB l s 4 0 255 && pixB s l)) ∧ Below w.heap.size w w' := by
  have hn := vz_small h
  have hs4 : (s : Int) + 4 = ((s + 4 : Nat) : Int) := by omega
  rcases hv : nearB l s 4 0 255 with _ | _
  · have C := hid (near_at (v := false) h s (s + 4) rfl hs4 (by omega) hs 0 255 (by rw [show s + 4 - s = 4 by omega]; exact hv))
    clear h hv hs4
    have hs1 : (s : Int) + 4 ≤ 9223372036854775807 := by omega
    go_enter Tryd.func30, Tryd.ntmps30
    go_wp2
    go_quiet ((go_at_call 17; exact Calls.quiet_of_same (C.out.quiet _)))
    go_wp2
    go_ret
    exact ⟨rfl, below_drewN (Below.refl _ _) _⟩
  · have C := hid (near_at (v := true) h s (s + 4) rfl hs4 (by omega) hs 0 255 (by rw [show s + 4 - s = 4 by omega]; exact hv))
    obtain ⟨s1, e1⟩ : ∃ s1, s1 = s + 1 := ⟨_, rfl⟩
    obtain ⟨s2, e2⟩ : ∃ s2, s2 = s + 2 := ⟨_, rfl⟩
    obtain ⟨s3, e3⟩ : ∃ s3, s3 = s + 3 := ⟨_, rfl⟩
    obtain ⟨-, c0⟩ := vi_nth' h (i := s) (by omega)
    obtain ⟨-, c1⟩ := vi_nth' h (i := s1) (by omega)
    obtain ⟨-, c2⟩ := vi_nth' h (i := s2) (by omega)
    obtain ⟨rfl, c3⟩ := vi_nth' h (i := s3) (by omega)
    have z0 : (s : Int) < (n : Int) := by omega
    have z1 : (s1 : Int) < (n : Int) := by omega
    have z2 : (s2 : Int) < (n : Int) := by omega
    have z3 : (s3 : Int) < (n : Int) := by omega
    have hw1 : IntKind.i64.wrap ((s : Int) + 1) = (s1 : Int) := by rw [IntKind.wrap_i64]; omega
    have hw2 : IntKind.i64.wrap ((s : Int) + 2) = (s2 : Int) := by rw [IntKind.wrap_i64]; omega
    have hw3 : IntKind.i64.wrap ((s : Int) + 3) = (s3 : Int) := by rw [IntKind.wrap_i64]; omega
    have hw4 : IntKind.i64.wrap ((s : Int) + 4) = (s : Int) + 4 := by rw [IntKind.wrap_i64]; omega
    obtain ⟨x, hx⟩ : ∃ x, x = pixB s l := ⟨_, rfl⟩
    rw [← hx]
    unfold pixB at hx
    rw [← e1, ← e2, ← e3] at hx
    clear h hv hs4 e1 e2 e3
    generalize nth l s = v0 at *
    generalize nth l s1 = v1 at *
    generalize nth l s2 = v2 at *
    generalize nth l s3 = v3 at *
    have hu0 : IntKind.u8.wrap v0 = v0 % 256 := by rw [IntKind.wrap_u8]
    have hu1 : IntKind.u8.wrap v1 = v1 % 256 := by rw [IntKind.wrap_u8]
    have hu2 : IntKind.u8.wrap v2 = v2 % 256 := by rw [IntKind.wrap_u8]
    have hu3 : IntKind.u8.wrap v3 = v3 % 256 := by rw [IntKind.wrap_u8]
    have y0 : 0 ≤ v0 % 256 ∧ v0 % 256 ≤ 255 := by omega
    have y1 : 0 ≤ v1 % 256 ∧ v1 % 256 ≤ 255 := by omega
    have y2 : 0 ≤ v2 % 256 ∧ v2 % 256 ≤ 255 := by omega
    have y3 : 0 ≤ v3 % 256 ∧ v3 % 256 ≤ 255 := by omega
    have HX := hid hx.symm
    have HY := hid (And.intro y0 (And.intro y1 (And.intro y2 y3)))
    clear hx y0 y1 y2 y3
    have hS : S4 w b (off + s) (.int .i64 v0) b (off + s1) (.int .i64 v1) b (off + s2) (.int .i64 v2) b (off + s3) (.int .i64 v3) w := ⟨⟨c0, c1, c2, c3⟩, Below.refl _ _⟩
    clear c0 c1 c2 c3
    go_enter Tryd.func30, Tryd.ntmps30
    go_wp2
    go_region_held3 (fun w' => (w'.cell? ⟨b, off + s, none⟩ = some (.int .i64 v0) ∧ w'.cell? ⟨b, off + s1, none⟩ = some (.int .i64 v1) ∧ w'.cell? ⟨b, off + s2, none⟩ = some (.int .i64 v2) ∧ w'.cell? ⟨b, off + s3, none⟩ = some (.int .i64 v3)) ∧ Below w.heap.size w w') (repeat (first | with_reducible assumption | with_reducible refine s4_drew ?_ | with_reducible refine s4_below ?_ ‹_›)) ((first
      | (go_at_call 17; with_reducible refine Calls.mono (near_s C.out (by with_reducible assumption)) ?_; rintro e w2 ⟨rfl, hw⟩; replace hw := hw.symm; subst hw)
      | (go_at_call 38; with_reducible refine Calls.mono (tone_s HX.out HY.out.1 HY.out.2.1 HY.out.2.2.1 HY.out.2.2.2 (by with_reducible assumption)) ?_; rintro e w3 ⟨rfl, hb⟩)))
    rename_i hh
    have HH := hid hh
    clear hh hS
    go_wp2
    go_ret
    exact ⟨rfl, HH.out.2⟩
end Go.Proofs.YtleclkjinkbebaaDoor
