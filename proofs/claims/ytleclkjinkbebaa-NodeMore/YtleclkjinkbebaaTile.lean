/- Tiles, and pixels: contracts. -/
import Derived.Test.YtleclkjinkbebaaTog2
namespace Go.Proofs.Ytleclkjinkbebaa
open Num Go.RowKit
set_option linter.unusedVariables false
set_option linter.unusedSimpArgs false

theorem side_v {n : Int} {v : Bool} {w : World} (h : sideB n = v) : Calls Try.prog 36 #[.int .i64 n] w fun e w' => e = .returned (.bool v) ∧ w' = w := by
  subst h; exact side_any n w
theorem wrapI_eq (x : Int) : IntKind.i64.wrap x = wrapI x := by
  rw [IntKind.wrap_i64]
  unfold wrapI
  omega
set_option maxRecDepth 100000 in
set_option maxHeartbeats 1000000 in
theorem tile_any (ao : Option Addr) (n c b off : Nat) (l : List Int) (w : World) (h : Vi w ao n c b off l) (h4 : 4 ≤ n) :
    Calls Try.prog 25 #[.slice ao n c] w fun e w' => e = .returned (.bool (tileB l)) ∧ Below w.heap.size w w' := by
  have hn := vz_small h
  obtain ⟨-, c0⟩ := vi_nth' h (i := 0) (by omega)
  obtain ⟨-, c1⟩ := vi_nth' h (i := 1) (by omega)
  obtain ⟨-, c2⟩ := vi_nth' h (i := 2) (by omega)
  obtain ⟨rfl, c3⟩ := vi_nth' h (i := 3) (by omega)
  have z0 : (0 : Int) < (n : Int) := by omega
  have y0 : 0 < n := by omega
  rw [Nat.add_zero] at c0
  have z1 : (1 : Int) < (n : Int) := by omega
  have z2 : (2 : Int) < (n : Int) := by omega
  have z3 : (3 : Int) < (n : Int) := by omega
  have hw0 := wrapI_eq (nth l 2 - nth l 0)
  have hw1 := wrapI_eq (nth l 3 - nth l 1)
  unfold tileB
  clear h h4
  generalize nth l 0 = v0 at *
  generalize nth l 1 = v1 at *
  generalize nth l 2 = v2 at *
  generalize nth l 3 = v3 at *
  generalize wrapI (v2 - v0) = d0 at *
  generalize wrapI (v3 - v1) = d1 at *
  rcases hd : sideB d0 with _ | _
  · have HD := hid hd
    clear hd
    go_enter Try.func25, Try.ntmps25
    go_wp2
    go_quiet ((go_at_call 36; exact Calls.quiet_of_same (side_v HD.out)))
    go_wp2
    go_ret
    exact ⟨rfl, below_drewN (Below.refl _ _) _⟩
  · rcases he : sideB d1 with _ | _
    all_goals
      have HD := hid hd
      have HE := hid he
      clear hd he
      go_enter Try.func25, Try.ntmps25
      go_wp2
      go_quiet ((first | (go_at_call 36; exact Calls.quiet_of_same (side_v HD.out)) | (go_at_call 36; exact Calls.quiet_of_same (side_v HE.out))))
      go_wp2
      go_ret
      exact ⟨rfl, below_drewN (Below.refl _ _) _⟩

set_option maxRecDepth 100000 in
set_option maxHeartbeats 1000000 in
theorem pixel1_any (ks s : Nat) (ao : Option Addr) (n c b off : Nat) (l : List Int) (w : World) (h : Vi w ao n c b off l) (hs : s + 4 ≤ n) (cs : w.cell? ⟨ks, 0, none⟩ = some (.int .i64 (s : Int))) :
    Calls Try.prog 34 #[.slice ao n c, .pointer (some ⟨ks, 0, none⟩)] w fun e w' => e = .returned (.bool (pixB s l)) ∧ Below w.heap.size w w' := by
  have hn := vz_small h
  have hk := World.block_lt_of_cell? _ _ cs
  obtain ⟨-, c0⟩ := vi_nth' h (i := s) (by omega)
  obtain ⟨-, c1⟩ := vi_nth' h (i := s + 1) (by omega)
  obtain ⟨-, c2⟩ := vi_nth' h (i := s + 2) (by omega)
  obtain ⟨rfl, c3⟩ := vi_nth' h (i := s + 3) (by omega)
  have hb := World.block_lt_of_cell? _ _ c0
  have z0 : (s : Int) < (n : Int) := by omega
  have z1 : (s : Int) + 1 < (n : Int) := by omega
  have z2 : (s : Int) + 2 < (n : Int) := by omega
  have z3 : (s : Int) + 3 < (n : Int) := by omega
  unfold pixB
  clear h
  generalize nth l s = v0 at *
  generalize nth l (s + 1) = v1 at *
  generalize nth l (s + 2) = v2 at *
  generalize nth l (s + 3) = v3 at *
  go_enter Try.func34, Try.ntmps34
  go_wp2
  refine wp_loop_rounds 5 ?_
  rw [rounds_succ]
  go_wp2
  rw [rounds_succ]
  go_wp2
  rw [rounds_succ]
  go_wp2
  rw [rounds_succ]
  go_wp2
  rw [rounds_succ]
  go_wp2_with (go_at_call 35; with_reducible refine Calls.mono (tone_any _ _ _ _ _) ?_; rintro e w1 ⟨rfl, hb⟩; have HB := hid (via (w := w) ((Below.refl _ _).alloc (Nat.le_refl _) _) hb); clear hb)
  go_ret
  exact ⟨rfl, HB.out⟩

theorem insB_ne (s k : Nat) (lo hi : Int) : insB s (k + 1) lo hi ≠ [] := by rw [insB_succ]; simp
theorem insB_ne4 (s : Nat) (lo hi : Int) : insB s 4 lo hi ≠ [] := insB_ne s 3 lo hi
theorem fv_pixel {n b ks s : Nat} {w : World} (hn : s + 4 ≤ n) (hc : w.cell? ⟨ks, 0, none⟩ = some (.int .i64 (s : Int))) (hk : ks ≠ b) : Fv n b w 34 #[.pointer (some ⟨ks, 0, none⟩)] (pixB s) :=
  ⟨ent_pixel1, fun W' hW ao c b' off l hl => pixel1_any ks s ao n c b' off l W' hl hn (cell_but hW hc hk)⟩
theorem fv_tint {n b : Nat} {w : World} : Fv n b w 22 #[] rightM := ⟨ent_tint, fun W' _ ao c b' off l hl => tint_any ao n c b' off l W' hl⟩
theorem fv_tile {n b : Nat} {w : World} (hn : 4 ≤ n) : Fv n b w 25 #[] tileB := ⟨ent_tile, fun W' _ ao c b' off l hl => tile_any ao n c b' off l W' hl hn⟩
theorem pix_ne {n s : Nat} {lo hi : Int} {w1 w2 : World} {ao : Option Addr} {m c b off k : Nat} {vs : List Value} (hO : Oz 1 w1.heap.size w2 ao m c b off vs) (hF : Fl n b w2 vs (insB s 4 lo hi)) (hz : w1.heap.size = k + 1) : k ≠ b := by
  have := fl_count hO hF
  rw [insB_len] at this
  have h3 := (hO.new (by have := hO.v.le; omega)).1
  omega

theorem pix_tog {n s k : Nat} {W w : World} {ao : Option Addr} {m c b off : Nat} {vs : List Value} (hn : s + 4 ≤ n) (hc : W.cell? ⟨k, 0, none⟩ = some (.int .i64 (s : Int))) (hz : W.heap.size = k + 1) (hb : Below W.heap.size W w) (hO : Oz 1 W.heap.size w ao m c b off vs) (hF : Fl n b w vs (insB s 4 0 255)) :
    Calls Try.prog 20 #[.slice ao m c, .func (.func 34) #[] #[.pointer (some ⟨k, 0, none⟩)]] w fun e w' => e = .returned (.slice ao m c) ∧ (∃ vs', Oz 1 W.heap.size w' ao m c b off vs' ∧ Fl n b w' vs' (togB (insB s 4 0 255) (pixB s))) ∧ But b w w' :=
  together_any n _ _ _ _ _ _ _ _ (pixB s) _ _ _ hO hF (insB_ne4 s 0 255) (fv_pixel hn (cell_below hb hc) (pix_ne hO hF hz))

set_option maxRecDepth 100000 in
set_option maxHeartbeats 1000000 in
theorem pixel_any (n s : Nat) (w : World) (hn : s + 4 ≤ n) :
    Calls Try.prog 24 #[.int .i64 (s : Int)] w fun e w' => RetF n w.heap.size w' e (togB (insB s 4 0 255) (pixB s)) ∧ Below w.heap.size w w' := by
  have hb0 : Below w.heap.size w (w.alloc (.cells #[.int .i64 (s : Int)] 3)) := (Below.refl _ _).alloc (Nat.le_refl _) _
  have H0 := hid (And.intro (cell_new w (.int .i64 (s : Int)) 3) (And.intro hb0 (show (w.alloc (.cells #[.int .i64 (s : Int)] 3)).heap.size = w.heap.size + 1 by simp)))
  have hmf : ∀ (fn : Fn) (first cap : Array Value) (w : World), (Instr.makeFunc fn first cap).run Try.prog w = .ok (.func fn first cap) w := fun _ _ _ _ => rfl
  clear hb0
  go_enter Try.func24, Try.ntmps24
  go_wp2_with (first
    | (go_at_call 21; with_reducible refine Calls.mono (within_any n s 4 _ _ _ hn (by decide)) ?_; rintro e w1 ⟨hr, hb⟩; obtain ⟨ao, m, c, b, off, vs, rfl, hO, hF⟩ := retF hr; have C := hid (pix_tog hn H0.out.1 H0.out.2.2 hb hO hF); have H := hid (And.intro hO (And.intro hF hb)); clear hr hO hF hb)
    | (go_at_call 20; with_reducible refine Calls.mono C.out ?_; rintro e w2 ⟨rfl, hx, hb⟩; have H2 := hid (And.intro hx hb); clear hx hb))
  go_ret
  obtain ⟨vs', h1, h2⟩ := H2.out.1
  have hz := H0.out.2.2
  have hbl : w.heap.size ≤ b := by
    have := fl_count H.out.1 H.out.2.1
    rw [insB_len] at this
    have h3 := (H.out.1.new (by have := H.out.1.v.le; omega)).1
    omega
  exact ⟨⟨_, _, _, _, _, vs', rfl, h1.mono (by omega), h2⟩, (via H0.out.2.1 H.out.2.2).trans (H2.out.2.low hbl (Nat.le_trans H0.out.2.1.size H.out.2.2.size))⟩
end Go.Proofs.Ytleclkjinkbebaa
