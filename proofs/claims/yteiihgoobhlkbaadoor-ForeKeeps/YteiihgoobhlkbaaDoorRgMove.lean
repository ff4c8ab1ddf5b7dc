/- Each rectangle of a region changed: the contract; regions moved. -/
import Derived.Test.YteiihgoobhlkbaaDoorRgEach
namespace Go.Proofs.YteiihgoobhlkbaaDoor.Rg
open Num Go.RowKit
set_option linter.unusedVariables false
set_option linter.unusedSimpArgs false

theorem ow_four0 {B : Nat} {w : World} {ao : Option Addr} {n c b : Nat} {l : List R} (h : Ow B w ao n c b 0 l) {j : Nat} (hj : j < l.length) :
    ∃ r : R, w.cell? ⟨b, j * 4, none⟩ = some (.int .i64 r.x0) ∧ w.cell? ⟨b, j * 4 + 1, none⟩ = some (.int .i64 r.y0) ∧ w.cell? ⟨b, j * 4 + 2, none⟩ = some (.int .i64 r.x1) ∧ w.cell? ⟨b, j * 4 + 3, none⟩ = some (.int .i64 r.y1) ∧
      w.frozen? ⟨b, j * 4, none⟩ = false ∧ w.frozen? ⟨b, j * 4 + 1, none⟩ = false ∧ w.frozen? ⟨b, j * 4 + 2, none⟩ = false ∧ w.frozen? ⟨b, j * 4 + 3, none⟩ = false := by
  obtain ⟨-, -, -, r, h⟩ := ow_four h hj
  exact ⟨r, by simpa only [Nat.zero_add] using h⟩
theorem ow_set40 {B : Nat} {w : World} {ao : Option Addr} {n c b : Nat} {l : List R} (h : Ow B w ao n c b 0 l) {j : Nat} (hj : j < l.length) (s : R) :
    Ow B ((((w.setCell ⟨b, j * 4, none⟩ (.int .i64 s.x0)).setCell ⟨b, j * 4 + 1, none⟩ (.int .i64 s.y0)).setCell ⟨b, j * 4 + 2, none⟩ (.int .i64 s.x1)).setCell ⟨b, j * 4 + 3, none⟩ (.int .i64 s.y1)) ao n c b 0 (l.set j s) := by
  simpa only [Nat.zero_add] using ow_set4 h hj s

set_option maxRecDepth 100000 in
set_option maxHeartbeats 1000000 in
theorem each_any (q : Nat) (caps : Array Value) (f : R → R) (he : ∀ (args : Array Value) (w : World), (callFunc q args).run Tryd.prog w = .ok (.enter q args) w)
    (W : World) (ao : Option Addr) (n c b off : Nat) (l : List R) (hv : Vw W ao n c b off l) (hN : l.length ≤ 1000000000000) (hE : Ew (l.map f)) (hf : ∀ r ∈ l, Ok (f r))
    (hq : ∀ r ∈ l, ∀ w, Below W.heap.size W w → Calls Tryd.prog q (#[.agg #[.int .i64 r.x0, .int .i64 r.y0, .int .i64 r.x1, .int .i64 r.y1]] ++ caps) w fun e w' => e = .returned (.agg #[.int .i64 (f r).x0, .int .i64 (f r).y0, .int .i64 (f r).x1, .int .i64 (f r).y1]) ∧ Below w.heap.size w w') :
    Calls Tryd.prog 64 #[.slice ao n c, .func (.func q) #[] caps] W fun e w' => RetO W.heap.size w' e (setsL orF (l.map f) []) ∧ Below W.heap.size W w' := by
  have hl := vw_len hv
  have hn : n ≤ 1000000000000 := by omega
  have HQ := hid hq
  have HV := hid (And.intro hv (And.intro hl (And.intro hN (And.intro hf hE))))
  have hm := run_zeros n (by omega)
  have H0 := hid (show Ow W.heap.size (W.alloc (.cells (zeroCs n) 34)) (some ⟨W.heap.size, 0, none⟩) n n W.heap.size 0 (half f l 0) by
    have := ow_news (B := W.heap.size) (w := W) (Nat.le_refl _) (zeros n) (by simp [zeros]; omega) 34
    rw [half_zero, hl]
    simpa [zeros, zeroCs] using this)
  have HB0 := hid (show Below W.heap.size W (W.alloc (.cells (zeroCs n) 34)) from (Below.refl _ _).alloc (Nat.le_refl _) _)
  clear hv hl hq hf hE
  go_enter Tryd.func64, Tryd.ntmps64
  go_wp2
  go_loopg [13] n (fun g i wr => ∃ k : Nat, k ≤ n ∧ g = n - k ∧ i = .int .i64 k ∧ Below W.heap.size W wr ∧ Ow W.heap.size wr (some ⟨W.heap.size, 0, none⟩) n n W.heap.size 0 (half f l k))
  case atStart => exact ⟨0, Nat.zero_le _, rfl, rfl, HB0.out, H0.out⟩
  case round =>
    obtain ⟨k, hk, rfl, rfl, hB, hO⟩ := hrel
    have HB := hid hB
    have HO := hid hO
    by_cases hlt : k < n
    · have hlz : (k : Int) < (n : Int) := by omega
      obtain ⟨r, hr⟩ : ∃ s, l[k]? = some s := ⟨_, List.getElem?_eq_getElem (by rw [HV.out.2.1]; exact hlt)⟩
      have HR := hid hr
      obtain ⟨rfl, h0, h1, h2, h3⟩ := vw_at (HV.out.1.below hB) hr
      have hbb : b < wr.heap.size := World.block_lt_of_cell? _ _ h0
      have hlen : k < (half f l k).length := by rw [half_len f l (by rw [HV.out.2.1]; exact hk), HV.out.2.1]; exact hlt
      have hmem : r ∈ l := List.mem_of_getElem? hr
      clear hB hO hr
      go_wp2_with (with_reducible refine Calls.mono (HQ.out r hmem _ (HB.out.alloc HB.out.size _)) ?_; rintro e w1 ⟨rfl, hb⟩; have HB1 := hid (step1 HB.out hb); have HO1 := hid (ow1 HO.out hb); obtain ⟨r', g0, g1, g2, g3, f0, f1, f2, f3⟩ := ow_four0 HO1.out hlen; clear hb)
      go_roundg (n - (k + 1))
      case measure => omega
      case rel =>
        refine ⟨k + 1, hlt, rfl, by simp, below_set4 HB1.out (Nat.le_refl _) _ _ _ _ _ _ _ _, ?_⟩
        rw [← half_set f HR.out]
        exact ow_set40 HO1.out hlen (f r)
    · obtain rfl : k = n := by omega
      have HO : Hid (Ow W.heap.size wr (some ⟨W.heap.size, 0, none⟩) k k W.heap.size 0 (l.map f)) := by
        have := hO
        rw [← HV.out.2.1, half_all, HV.out.2.1] at this
        exact this
      have hM : ∀ r ∈ l.map f, Ok r := fun r hr => by
        obtain ⟨s, hs, rfl⟩ := List.mem_map.1 hr
        exact HV.out.2.2.2.1 s hs
      have HM := hid (And.intro hM (And.intro (Nat.lt_succ_self (l.map f).length) HV.out.2.2.2.2))
      clear hB hO hM
      go_wp2_with (go_at_call 38; with_reducible refine Calls.mono (of_any ((l.map f).length + 1) (l.map f) _ _ _ _ _ wr HO.out.v HM.out.2.1 HM.out.2.2 HM.out.1) ?_; rintro e w1 ⟨hr, hb⟩; obtain ⟨ao3, n3, c3, b3, off3, rfl, hv3⟩ := retO hr; have H3 := hid (And.intro hv3 (HB.out.trans (hb.mono HB.out.size))); clear hr hb hv3)
      go_ret
      exact ⟨⟨_, _, _, b3, off3, rfl, H3.out.1.mono HB.out.size⟩, H3.out.2⟩

theorem enter46 (args : Array Value) (w : World) : (callFunc 65 args).run Tryd.prog w = .ok (.enter 65 args) w := by
  simp [callFunc, go_sem]
  rw [if_neg (by simp [Tryd.f65]), if_neg (by simp [Tryd.f65])]
theorem enter49 (args : Array Value) (w : World) : (callFunc 66 args).run Tryd.prog w = .ok (.enter 66 args) w := by
  simp [callFunc, go_sem]
  rw [if_neg (by simp [Tryd.f66]), if_neg (by simp [Tryd.f66])]

set_option maxHeartbeats 1000000 in
theorem moved_any (a b c d k l : Int) (p q : Nat) (w : World) (hp : w.cell? ⟨p, 0, none⟩ = some (.int .i64 k)) (hq : w.cell? ⟨q, 0, none⟩ = some (.int .i64 l)) (ho : Ok ⟨a, b, c, d⟩) (hk : -4398046511104 ≤ k ∧ k ≤ 4398046511104) (hl : -4398046511104 ≤ l ∧ l ≤ 4398046511104) :
    Calls Tryd.prog 65 #[.agg #[.int .i64 a, .int .i64 b, .int .i64 c, .int .i64 d], .pointer (some ⟨p, 0, none⟩), .pointer (some ⟨q, 0, none⟩)] w fun e w' => e = .returned (.agg #[.int .i64 (moveR ⟨a, b, c, d⟩ k l).x0, .int .i64 (moveR ⟨a, b, c, d⟩ k l).y0, .int .i64 (moveR ⟨a, b, c, d⟩ k l).x1, .int .i64 (moveR ⟨a, b, c, d⟩ k l).y1]) ∧ Below w.heap.size w w' := by
  have hpb : p < w.heap.size := World.block_lt_of_cell? _ _ hp
  have hqb : q < w.heap.size := World.block_lt_of_cell? _ _ hq
  obtain ⟨m, hm⟩ : ∃ m, m = moveR ⟨a, b, c, d⟩ k l := ⟨_, rfl⟩
  have C := fun w => Rc.move_any a b c d k l w ho hk hl
  rw [← hm] at C ⊢
  have HC := hid C
  have H4 := hid (Rc.Has4.new (W := w.alloc (.cells #[.int .i64 a, .int .i64 b, .int .i64 c, .int .i64 d] 34)) (k := w.heap.size + 1) (by simp) (.int .i64 0) (.int .i64 0) (.int .i64 0) (.int .i64 0) 34)
  have HZ := hid (((Below.refl w.heap.size w).alloc (Nat.le_refl _) (.cells #[.int .i64 a, .int .i64 b, .int .i64 c, .int .i64 d] 34)).alloc (by simp) (.cells #[.int .i64 0, .int .i64 0, .int .i64 0, .int .i64 0] 34))
  clear hm C ho hk hl
  go_enter Tryd.func65, Tryd.ntmps65
  go_wp2_with (go_at_call 44; with_reducible refine Calls.mono (HC.out _) ?_; rintro e w1 ⟨rfl, hb⟩; have H41 := hid (H4.out.below hb); obtain ⟨p0, p1, p2, p3, pf⟩ := H41.out; have HB1 := hid (HZ.out.trans (hb.mono HZ.out.size)); clear hb)
  obtain ⟨s0, s1, s2, s3⟩ := Rc.set4 p0 p1 p2 p3 (.int .i64 m.x0) (.int .i64 m.y0) (.int .i64 m.x1) (.int .i64 m.y1)
  refine bodyPost_ret (v := .agg #[.int .i64 m.x0, .int .i64 m.y0, .int .i64 m.x1, .int .i64 m.y1]) (by simp [results, Tryd.results65, go_sem, s0, s1, s2, s3]) rfl ⟨rfl, ?_⟩
  exact below_set4 HB1.out (Nat.le_succ _) _ _ _ _ _ _ _ _

theorem cell_new (w : World) (v : Value) (t : TypeId) : (w.alloc (.cells #[v] t)).cell? ⟨w.heap.size, 0, none⟩ = some v := by simp
theorem cell_below {W w : World} {p : Nat} {v : Value} (h : W.cell? ⟨p, 0, none⟩ = some v) (hb : Below W.heap.size W w) : w.cell? ⟨p, 0, none⟩ = some v :=
  (hb.cell (p := ⟨p, 0, none⟩) (World.block_lt_of_cell? _ _ h)).trans h

set_option maxHeartbeats 1000000 in
theorem move_any (W : World) (ao : Option Addr) (n c b off : Nat) (l : List R) (dx dy : Int) (hv : Vw W ao n c b off l) (hN : l.length ≤ 1000000000000) (hE : Ew (l.map fun r => moveR r dx dy)) (hok : ∀ r ∈ l, Ok r) (hk : -4398046511104 ≤ dx ∧ dx ≤ 4398046511104) (hl : -4398046511104 ≤ dy ∧ dy ≤ 4398046511104) :
    Calls Tryd.prog 35 #[.slice ao n c, .int .i64 dx, .int .i64 dy] W fun e w' => RetO W.heap.size w' e (setsL orF (l.map fun r => moveR r dx dy) []) ∧ Below W.heap.size W w' := by
  have hBA : Below W.heap.size W ((W.alloc (.cells #[.int .i64 dx] 3)).alloc (.cells #[.int .i64 dy] 3)) := ((Below.refl _ _).alloc (Nat.le_refl _) _).alloc (by simp) _
  have hx : ((W.alloc (.cells #[.int .i64 dx] 3)).alloc (.cells #[.int .i64 dy] 3)).cell? ⟨W.heap.size, 0, none⟩ = some (.int .i64 dx) := cell_below (cell_new _ _ _) ((Below.refl _ _).alloc (Nat.le_refl _) _)
  have hy : ((W.alloc (.cells #[.int .i64 dx] 3)).alloc (.cells #[.int .i64 dy] 3)).cell? ⟨W.heap.size + 1, 0, none⟩ = some (.int .i64 dy) := by simp
  have C := each_any 65 #[.pointer (some ⟨W.heap.size, 0, none⟩), .pointer (some ⟨W.heap.size + 1, 0, none⟩)] (fun r => moveR r dx dy) enter46 ((W.alloc (.cells #[.int .i64 dx] 3)).alloc (.cells #[.int .i64 dy] 3)) ao n c b off l (hv.below hBA) hN hE (fun r _ => ok_moveR r dx dy)
    (fun r hr w hb => moved_any r.x0 r.y0 r.x1 r.y1 dx dy W.heap.size (W.heap.size + 1) w (cell_below hx hb) (cell_below hy hb) (hok r hr) hk hl)
  have HC := hid C
  have HA := hid hBA
  have hmf : ∀ (fn : Fn) (first cap : Array Value) (w : World), (Instr.makeFunc fn first cap).run Tryd.prog w = .ok (.func fn first cap) w := fun _ _ _ _ => rfl
  clear hBA hx hy C hv hok hk hl hE
  go_enter Tryd.func35, Tryd.ntmps35
  go_wp2_with (go_at_call 64; with_reducible refine Calls.mono HC.out ?_; rintro e w1 ⟨hr, hb⟩; obtain ⟨ao3, n3, c3, b3, off3, rfl, hv3⟩ := retO hr; have H3 := hid (And.intro (hv3.mono HA.out.size) (HA.out.trans (hb.mono HA.out.size))); clear hr hb hv3)
  go_ret
  exact ⟨⟨_, _, _, b3, off3, rfl, H3.out.1⟩, H3.out.2⟩
end Go.Proofs.YteiihgoobhlkbaaDoor.Rg
