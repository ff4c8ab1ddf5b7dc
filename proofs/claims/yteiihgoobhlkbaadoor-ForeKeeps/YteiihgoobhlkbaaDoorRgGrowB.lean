/- Regions grown: the contract. -/
import Derived.Test.YteiihgoobhlkbaaDoorRgMove
namespace Go.Proofs.YteiihgoobhlkbaaDoor.Rg
open Num Go.RowKit
set_option linter.unusedVariables false
set_option linter.unusedSimpArgs false

theorem cell_newAt {w : World} {k : Nat} (hk : k = w.heap.size) (v : Value) (t : TypeId) : (w.alloc (.cells #[v] t)).cell? ⟨k, 0, none⟩ = some v := by subst hk; exact cell_new w v t
abbrev Up (n : Int) : Prop := 0 ≤ n ∧ n ≤ 4398046511104

set_option maxHeartbeats 1000000 in
theorem grown_any (a b c d k l m n : Int) (p q r s : Nat) (w : World) (hp : w.cell? ⟨p, 0, none⟩ = some (.int .i64 k)) (hq : w.cell? ⟨q, 0, none⟩ = some (.int .i64 l)) (hr : w.cell? ⟨r, 0, none⟩ = some (.int .i64 m)) (hs : w.cell? ⟨s, 0, none⟩ = some (.int .i64 n)) (ho : Ok ⟨a, b, c, d⟩) (hk : Up k) (hl : Up l) (hm : Up m) (hn : Up n) :
    Calls Tryd.prog 66 #[.agg #[.int .i64 a, .int .i64 b, .int .i64 c, .int .i64 d], .pointer (some ⟨p, 0, none⟩), .pointer (some ⟨q, 0, none⟩), .pointer (some ⟨r, 0, none⟩), .pointer (some ⟨s, 0, none⟩)] w fun e w' => e = .returned (.agg #[.int .i64 (grow ⟨a, b, c, d⟩ k l m n).x0, .int .i64 (grow ⟨a, b, c, d⟩ k l m n).y0, .int .i64 (grow ⟨a, b, c, d⟩ k l m n).x1, .int .i64 (grow ⟨a, b, c, d⟩ k l m n).y1]) ∧ Below w.heap.size w w' := by
  have hpb : p < w.heap.size := World.block_lt_of_cell? _ _ hp
  have hqb : q < w.heap.size := World.block_lt_of_cell? _ _ hq
  have hrb : r < w.heap.size := World.block_lt_of_cell? _ _ hr
  have hsb : s < w.heap.size := World.block_lt_of_cell? _ _ hs
  obtain ⟨v, hv⟩ : ∃ v, v = grow ⟨a, b, c, d⟩ k l m n := ⟨_, rfl⟩
  have C := fun w => Rc.grow_any a b c d k l m n w ho hk hl hm hn
  rw [← hv] at C ⊢
  have HC := hid C
  have H4 := hid (Rc.Has4.new (W := w.alloc (.cells #[.int .i64 a, .int .i64 b, .int .i64 c, .int .i64 d] 34)) (k := w.heap.size + 1) (by simp) (.int .i64 0) (.int .i64 0) (.int .i64 0) (.int .i64 0) 34)
  have HZ := hid (((Below.refl w.heap.size w).alloc (Nat.le_refl _) (.cells #[.int .i64 a, .int .i64 b, .int .i64 c, .int .i64 d] 34)).alloc (by simp) (.cells #[.int .i64 0, .int .i64 0, .int .i64 0, .int .i64 0] 34))
  clear hv C ho hk hl hm hn
  go_enter Tryd.func66, Tryd.ntmps66
  go_wp2_with (go_at_call 45; with_reducible refine Calls.mono (HC.out _) ?_; rintro e w1 ⟨rfl, hb⟩; have H41 := hid (H4.out.below hb); obtain ⟨p0, p1, p2, p3, pf⟩ := H41.out; have HB1 := hid (HZ.out.trans (hb.mono HZ.out.size)); clear hb)
  obtain ⟨s0, s1, s2, s3⟩ := Rc.set4 p0 p1 p2 p3 (.int .i64 v.x0) (.int .i64 v.y0) (.int .i64 v.x1) (.int .i64 v.y1)
  refine bodyPost_ret (v := .agg #[.int .i64 v.x0, .int .i64 v.y0, .int .i64 v.x1, .int .i64 v.y1]) (by simp [results, Tryd.results66, go_sem, s0, s1, s2, s3]) rfl ⟨rfl, ?_⟩
  exact below_set4 HB1.out (Nat.le_succ _) _ _ _ _ _ _ _ _

set_option maxHeartbeats 1000000 in
theorem grow_any (W : World) (ao : Option Addr) (n c b off : Nat) (l : List R) (k1 k2 k3 k4 : Int) (hv : Vw W ao n c b off l) (hN : l.length ≤ 1000000000000) (hE : Ew (l.map fun r => grow r k1 k2 k3 k4)) (hok : ∀ r ∈ l, Ok r) (h1 : Up k1) (h2 : Up k2) (h3 : Up k3) (h4 : Up k4) :
    Calls Tryd.prog 36 #[.slice ao n c, .int .i64 k1, .int .i64 k2, .int .i64 k3, .int .i64 k4] W fun e w' => RetO W.heap.size w' e (setsL orF (l.map fun r => grow r k1 k2 k3 k4) []) ∧ Below W.heap.size W w' := by
  obtain ⟨V, hV⟩ : ∃ V, V = (((W.alloc (.cells #[.int .i64 k1] 3)).alloc (.cells #[.int .i64 k2] 3)).alloc (.cells #[.int .i64 k3] 3)).alloc (.cells #[.int .i64 k4] 3) := ⟨_, rfl⟩
  have hBA : Below W.heap.size W V := by rw [hV]; exact ((((Below.refl _ _).alloc (Nat.le_refl _) _).alloc (by simp) _).alloc (by go_size) _).alloc (by go_size) _
  have c1 : V.cell? ⟨W.heap.size, 0, none⟩ = some (.int .i64 k1) := by
    rw [hV]
    exact cell_below (cell_below (cell_below (cell_new _ _ _) ((Below.refl _ _).alloc (Nat.le_refl _) _)) ((Below.refl _ _).alloc (Nat.le_refl _) _)) ((Below.refl _ _).alloc (Nat.le_refl _) _)
  have c2 : V.cell? ⟨W.heap.size + 1, 0, none⟩ = some (.int .i64 k2) := by
    rw [hV]
    exact cell_below (cell_below (show ((W.alloc (.cells #[.int .i64 k1] 3)).alloc (.cells #[.int .i64 k2] 3)).cell? ⟨W.heap.size + 1, 0, none⟩ = _ by simp) ((Below.refl _ _).alloc (Nat.le_refl _) _)) ((Below.refl _ _).alloc (Nat.le_refl _) _)
  have c3 : V.cell? ⟨W.heap.size + 1 + 1, 0, none⟩ = some (.int .i64 k3) := by
    rw [hV]
    exact cell_below (cell_newAt (by simp) _ _) ((Below.refl _ _).alloc (Nat.le_refl _) _)
  have c4 : V.cell? ⟨W.heap.size + 1 + 1 + 1, 0, none⟩ = some (.int .i64 k4) := by rw [hV]; exact cell_newAt (by simp) _ _
  have C := each_any 66 #[.pointer (some ⟨W.heap.size, 0, none⟩), .pointer (some ⟨W.heap.size + 1, 0, none⟩), .pointer (some ⟨W.heap.size + 1 + 1, 0, none⟩), .pointer (some ⟨W.heap.size + 1 + 1 + 1, 0, none⟩)] (fun r => grow r k1 k2 k3 k4) enter49 V ao n c b off l (hv.below hBA) hN hE (fun r _ => ok_grow r k1 k2 k3 k4)
    (fun r hr w hb => grown_any r.x0 r.y0 r.x1 r.y1 k1 k2 k3 k4 _ _ _ _ w (cell_below c1 hb) (cell_below c2 hb) (cell_below c3 hb) (cell_below c4 hb) (hok r hr) h1 h2 h3 h4)
  rw [hV] at C hBA
  have HC := hid C
  have HA := hid hBA
  have hmf : ∀ (fn : Fn) (first cap : Array Value) (w : World), (Instr.makeFunc fn first cap).run Tryd.prog w = .ok (.func fn first cap) w := fun _ _ _ _ => rfl
  clear hBA c1 c2 c3 c4 C hv hE hok h1 h2 h3 h4 hV
  go_enter Tryd.func36, Tryd.ntmps36
  go_wp2_with (go_at_call 64; with_reducible refine Calls.mono HC.out ?_; rintro e w1 ⟨hr, hb⟩; obtain ⟨ao3, n3, c3, b3, off3, rfl, hv3⟩ := retO hr; have H3 := hid (And.intro (hv3.mono HA.out.size) (HA.out.trans (hb.mono HA.out.size))); clear hr hb hv3)
  go_ret
  exact ⟨⟨_, _, _, b3, off3, rfl, H3.out.1⟩, H3.out.2⟩

end Go.Proofs.YteiihgoobhlkbaaDoor.Rg
