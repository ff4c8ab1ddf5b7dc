/- Regions grown; the document's regions moved and grown: contracts. -/
import Derived.Test.YtlakklpnajgjiaaMove
import Derived.Test.YtlakklpnajgjiaaRRefs
namespace Go.Proofs.Ytlakklpnajgjiaa
open Num Go.RowKit
set_option linter.unusedVariables false
set_option linter.unusedSimpArgs false

theorem cell_newAt {w : World} {k : Nat} (hk : k = w.heap.size) (v : Value) (t : TypeId) : (w.alloc (.cells #[v] t)).cell? ⟨k, 0, none⟩ = some v := by subst hk; exact cell_new w v t
abbrev Up (n : Int) : Prop := 0 ≤ n ∧ n ≤ 4398046511104

set_option maxHeartbeats 1000000 in
theorem grown_any (a b c d k l m n : Int) (p q r s : Nat) (w : World) (hp : w.cell? ⟨p, 0, none⟩ = some (.int .i64 k)) (hq : w.cell? ⟨q, 0, none⟩ = some (.int .i64 l)) (hr : w.cell? ⟨r, 0, none⟩ = some (.int .i64 m)) (hs : w.cell? ⟨s, 0, none⟩ = some (.int .i64 n)) (ho : Ok ⟨a, b, c, d⟩) (hk : Up k) (hl : Up l) (hm : Up m) (hn : Up n) :
    Calls Try.prog 49 #[.agg #[.int .i64 a, .int .i64 b, .int .i64 c, .int .i64 d], .pointer (some ⟨p, 0, none⟩), .pointer (some ⟨q, 0, none⟩), .pointer (some ⟨r, 0, none⟩), .pointer (some ⟨s, 0, none⟩)] w fun e w' => e = .returned (.agg #[.int .i64 (grow ⟨a, b, c, d⟩ k l m n).x0, .int .i64 (grow ⟨a, b, c, d⟩ k l m n).y0, .int .i64 (grow ⟨a, b, c, d⟩ k l m n).x1, .int .i64 (grow ⟨a, b, c, d⟩ k l m n).y1]) ∧ Below w.heap.size w w' := by
  have hpb : p < w.heap.size := World.block_lt_of_cell? _ _ hp
  have hqb : q < w.heap.size := World.block_lt_of_cell? _ _ hq
  have hrb : r < w.heap.size := World.block_lt_of_cell? _ _ hr
  have hsb : s < w.heap.size := World.block_lt_of_cell? _ _ hs
  obtain ⟨v, hv⟩ : ∃ v, v = grow ⟨a, b, c, d⟩ k l m n := ⟨_, rfl⟩
  have C := fun w => Rc.grow_any a b c d k l m n w ho hk hl hm hn
  rw [← hv] at C ⊢
  have HC := hid C
  have H4 := hid (Rc.Has4.new (W := w.alloc (.cells #[.int .i64 a, .int .i64 b, .int .i64 c, .int .i64 d] 36)) (k := w.heap.size + 1) (by simp) (.int .i64 0) (.int .i64 0) (.int .i64 0) (.int .i64 0) 36)
  have HZ := hid (((Below.refl w.heap.size w).alloc (Nat.le_refl _) (.cells #[.int .i64 a, .int .i64 b, .int .i64 c, .int .i64 d] 36)).alloc (by simp) (.cells #[.int .i64 0, .int .i64 0, .int .i64 0, .int .i64 0] 36))
  clear hv C ho hk hl hm hn
  go_enter Try.func49, Try.ntmps49
  go_wp2_with (go_at_call 50; with_reducible refine Calls.mono (HC.out _) ?_; rintro e w1 ⟨rfl, hb⟩; have H41 := hid (H4.out.below hb); obtain ⟨p0, p1, p2, p3, pf⟩ := H41.out; have HB1 := hid (HZ.out.trans (hb.mono HZ.out.size)); clear hb)
  obtain ⟨s0, s1, s2, s3⟩ := Rc.set4 p0 p1 p2 p3 (.int .i64 v.x0) (.int .i64 v.y0) (.int .i64 v.x1) (.int .i64 v.y1)
  refine bodyPost_ret (v := .agg #[.int .i64 v.x0, .int .i64 v.y0, .int .i64 v.x1, .int .i64 v.y1]) (by simp [results, Try.results49, go_sem, s0, s1, s2, s3]) rfl ⟨rfl, ?_⟩
  exact below_set4 HB1.out (Nat.le_succ _) _ _ _ _ _ _ _ _

set_option maxHeartbeats 1000000 in
theorem grow_any (W : World) (ao : Option Addr) (n c b off : Nat) (l : List R) (k1 k2 k3 k4 : Int) (hv : Vw W ao n c b off l) (hN : l.length ≤ 100) (hok : ∀ r ∈ l, Ok r) (h1 : Up k1) (h2 : Up k2) (h3 : Up k3) (h4 : Up k4) :
    Calls Try.prog 23 #[.slice ao n c, .int .i64 k1, .int .i64 k2, .int .i64 k3, .int .i64 k4] W fun e w' => RetO W.heap.size w' e (setsL orF (l.map fun r => grow r k1 k2 k3 k4) []) ∧ Below W.heap.size W w' := by
  obtain ⟨V, hV⟩ : ∃ V, V = (((W.alloc (.cells #[.int .i64 k1] 3)).alloc (.cells #[.int .i64 k2] 3)).alloc (.cells #[.int .i64 k3] 3)).alloc (.cells #[.int .i64 k4] 3) := ⟨_, rfl⟩
  have hBA : Below W.heap.size W V := by rw [hV]; exact ((((Below.refl _ _).alloc (Nat.le_refl _) _).alloc (by simp) _).alloc (by go_size) _).alloc (by go_size) _
  have c1 : V.cell? ⟨W.heap.size, 0, none⟩ = some (.int .i64 k1) := by
    rw [hV]
    exact cell_below (cell_below (cell_below (cell_new _ _ _) ((Below.refl _ _).alloc (Nat.le_refl _) _)) ((Below.refl _ _).alloc (Nat.le_refl _) _)) ((Below.refl _ _).alloc (Nat.le_refl _) _)
  have c2 : V.cell? ⟨W.heap.size + 1, 0, none⟩ = some (.int .i64 k2) := by
    rw [hV]
    exact cell_below (cell_below (show ((W.alloc (.cells #[.int .i64 k1] 3)).alloc (.cells #[.int .i64 k2] 3)).cell? ⟨W.heap.size + 1, 0, none⟩ = _ by simp) ((Below.refl _ _).alloc (Nat.le_refl _) _)) ((Below.refl _ _).alloc (Nat.le_refl _) _)
  have c3 : V.cell? ⟨W.heap.size + 1 + 1, 0, none⟩ = some (.int .i64 k3) := by
    rw [hV]
    exact cell_below (cell_newAt (by simp) _ _) ((Below.refl _ _).alloc (Nat.le_refl _) _)
  have c4 : V.cell? ⟨W.heap.size + 1 + 1 + 1, 0, none⟩ = some (.int .i64 k4) := by rw [hV]; exact cell_newAt (by simp) _ _
  have C := each_any 49 #[.pointer (some ⟨W.heap.size, 0, none⟩), .pointer (some ⟨W.heap.size + 1, 0, none⟩), .pointer (some ⟨W.heap.size + 1 + 1, 0, none⟩), .pointer (some ⟨W.heap.size + 1 + 1 + 1, 0, none⟩)] (fun r => grow r k1 k2 k3 k4) enter49 V ao n c b off l (hv.below hBA) hN (fun r _ => ok_grow r k1 k2 k3 k4)
    (fun r hr w hb => grown_any r.x0 r.y0 r.x1 r.y1 k1 k2 k3 k4 _ _ _ _ w (cell_below c1 hb) (cell_below c2 hb) (cell_below c3 hb) (cell_below c4 hb) (hok r hr) h1 h2 h3 h4)
  rw [hV] at C hBA
  have HC := hid C
  have HA := hid hBA
  have hmf : ∀ (fn : Fn) (first cap : Array Value) (w : World), (Instr.makeFunc fn first cap).run Try.prog w = .ok (.func fn first cap) w := fun _ _ _ _ => rfl
  clear hBA c1 c2 c3 c4 C hv hok h1 h2 h3 h4 hV
  go_enter Try.func23, Try.ntmps23
  go_wp2_with (go_at_call 45; with_reducible refine Calls.mono HC.out ?_; rintro e w1 ⟨hr, hb⟩; obtain ⟨ao3, n3, c3, b3, off3, rfl, hv3⟩ := retO hr; have H3 := hid (And.intro (hv3.mono HA.out.size) (HA.out.trans (hb.mono HA.out.size))); clear hr hb hv3)
  go_ret
  exact ⟨⟨_, _, _, b3, off3, rfl, H3.out.1⟩, H3.out.2⟩

theorem src22 (w : World) (r : R) : Src Try.prog 4 22 (.slice (some ⟨w.heap.size, 0, none⟩) 1 1) 1 (flat [r]) (w.alloc (.cells #[.int .i64 r.x0, .int .i64 r.y0, .int .i64 r.x1, .int .i64 r.y1] 36)) :=
  srcV Try.underlying22 (new1 w r.x0 r.y0 r.x1 r.y1)
theorem take_map {f : R → R} {l : List R} {k : Nat} {r : R} (h : l[k]? = some r) : (l.take k).map f ++ [f r] = (l.take (k + 1)).map f := by
  obtain ⟨hk, rfl⟩ := List.getElem?_eq_some_iff.1 h
  rw [List.take_succ_eq_append_getElem hk, List.map_append]
  rfl

set_option maxRecDepth 100000 in
set_option maxHeartbeats 1000000 in
theorem refMoveL_any (W : World) (ao : Option Addr) (n c b off : Nat) (l : List R) (dx dy : Int) (hv : Vw W ao n c b off l) (hN : l.length ≤ 100) (hok : ∀ r ∈ l, Ok r) (hk : -4398046511104 ≤ dx ∧ dx ≤ 4398046511104) (hl : -4398046511104 ≤ dy ∧ dy ≤ 4398046511104) :
    Calls Try.prog 22 #[.slice ao n c, .int .i64 dx, .int .i64 dy] W fun e w' => RetO W.heap.size w' e (setsL orF (l.map fun r => moveR r dx dy) []) ∧ Below W.heap.size W w' := by
  have hln := vw_len hv
  have hn : n ≤ 100 := by omega
  have HV := hid (And.intro hv (And.intro hln (And.intro hN hok)))
  have HK := hid (And.intro hk hl)
  obtain ⟨i0, hi, hz0, hz1, hz2⟩ := info_parts info36
  have HI := hid (And.intro hi (And.intro hz0 (And.intro hz1 hz2)))
  clear hv hln hok hk hl hi hz0 hz1 hz2
  go_enter Try.func22, Try.ntmps22
  go_wp2
  go_loopg [7, 8] n (fun g v7 v8 wr => ∃ k mo mn1 mc mb moff, k ≤ n ∧ g = n - k ∧ v8 = .int .i64 (k : Nat) ∧ v7 = .slice mo mn1 mc ∧ Ow W.heap.size wr mo mn1 mc mb moff ((l.take k).map fun r => moveR r dx dy) ∧ Below W.heap.size W wr)
  case atStart => exact ⟨0, _, _, _, 0, 0, Nat.zero_le _, rfl, rfl, rfl, oz_nil _ _ _ _, Below.refl _ _⟩
  case round =>
    obtain ⟨k, mo, mn1, mc, mb, moff, hk, rfl, rfl, rfl, hO, hB⟩ := hrel
    have hmn : mn1 ≤ 100 := by rw [← vw_len hO.v, List.length_map, List.length_take]; omega
    have HO := hid hO
    have HB := hid hB
    by_cases hlt : k < n
    · have hlz : (k : Int) < (n : Int) := by omega
      obtain ⟨r, hr⟩ : ∃ s, l[k]? = some s := ⟨_, List.getElem?_eq_getElem (by rw [HV.out.2.1]; exact hlt)⟩
      have HR := hid hr
      obtain ⟨rfl, h0, h1, h2, h3⟩ := vw_at (HV.out.1.below hB) hr
      have hbb : b < wr.heap.size := World.block_lt_of_cell? _ _ h0
      have HX := hid (HV.out.2.2.2 r (List.mem_of_getElem? hr))
      clear hB hO hr
      go_wp2_with (first
        | (go_at_call 48; with_reducible refine Calls.mono (Rc.refMove_any r.x0 r.y0 r.x1 r.y1 dx dy wr HX.out HK.out.1 HK.out.2) ?_; rintro e w1 ⟨rfl, hb⟩; replace HO := hid (HO.out.below hb); replace HB := hid (step0 HB.out hb); clear hb)
        | (at_builtin; refine wpList_append_mine _ rfl (.tmp 15) (.tmp 23) 22 22 rfl (HO.out.below ((Below.refl _ _).alloc (Nat.le_refl _) _)) (HB.out.alloc HB.out.size _).size 36 i0 _ 32 Try.underlying22 HI.out.1 HI.out.2.1 HI.out.2.2.1 HI.out.2.2.2 rfl rfl _ 1 (flat [moveR ⟨r.x0, r.y0, r.x1, r.y1⟩ dx dy]) rfl (src22 w1 _) (by simp only [maxLen]; omega) (by omega) ?_; intro eo ec eb eoff w2 hO2 hB2 _ _; rw [← flat_append, take_map HR.out] at hO2; have HO2 := hid hO2; replace HB := hid ((HB.out.alloc HB.out.size _).trans hB2); clear hO2 hB2))
      go_roundg (n - (k + 1))
      case measure => omega
      case rel => exact ⟨k + 1, _, _, _, eb, eoff, hlt, rfl, by simp, rfl, HO2.out, HB.out⟩
    · obtain rfl : n = k := by omega
      replace HO := hid hO
      rw [List.take_of_length_le (by rw [HV.out.2.1]; exact Nat.le_refl _)] at HO
      have hN9 : (l.map fun r => moveR r dx dy).length ≤ 1000 := by rw [List.length_map]; omega
      clear hO hB
      go_wp2_with (go_at_call 13; with_reducible refine Calls.mono (refOf_any wr mo mn1 mc mb moff _ HO.out.v hN9) ?_; rintro e w1 ⟨hr, hb⟩; obtain ⟨ao3, n3, c3, b3, off3, rfl, hv3⟩ := retO hr; have H3 := hid (And.intro (hv3.mono HB.out.size) (step0 HB.out hb)); clear hr hb hv3)
      go_ret
      exact ⟨⟨_, _, _, b3, off3, rfl, H3.out.1⟩, H3.out.2⟩
set_option maxRecDepth 100000 in
set_option maxHeartbeats 1000000 in
theorem refGrowL_any (W : World) (ao : Option Addr) (n c b off : Nat) (l : List R) (k1 k2 k3 k4 : Int) (hv : Vw W ao n c b off l) (hN : l.length ≤ 100) (hok : ∀ r ∈ l, Ok r) (u1 : Up k1) (u2 : Up k2) (u3 : Up k3) (u4 : Up k4) :
    Calls Try.prog 24 #[.slice ao n c, .int .i64 k1, .int .i64 k2, .int .i64 k3, .int .i64 k4] W fun e w' => RetO W.heap.size w' e (setsL orF (l.map fun r => grow r k1 k2 k3 k4) []) ∧ Below W.heap.size W w' := by
  have hln := vw_len hv
  have hn : n ≤ 100 := by omega
  have HV := hid (And.intro hv (And.intro hln (And.intro hN hok)))
  have HK := hid (And.intro u1 (And.intro u2 (And.intro u3 u4)))
  obtain ⟨i0, hi, hz0, hz1, hz2⟩ := info_parts info36
  have HI := hid (And.intro hi (And.intro hz0 (And.intro hz1 hz2)))
  clear hv hln hok u1 u2 u3 u4 hi hz0 hz1 hz2
  go_enter Try.func24, Try.ntmps24
  go_wp2
  go_loopg [11, 12] n (fun g v7 v8 wr => ∃ k mo mn1 mc mb moff, k ≤ n ∧ g = n - k ∧ v8 = .int .i64 (k : Nat) ∧ v7 = .slice mo mn1 mc ∧ Ow W.heap.size wr mo mn1 mc mb moff ((l.take k).map fun r => grow r k1 k2 k3 k4) ∧ Below W.heap.size W wr)
  case atStart => exact ⟨0, _, _, _, 0, 0, Nat.zero_le _, rfl, rfl, rfl, oz_nil _ _ _ _, Below.refl _ _⟩
  case round =>
    obtain ⟨k, mo, mn1, mc, mb, moff, hk, rfl, rfl, rfl, hO, hB⟩ := hrel
    have hmn : mn1 ≤ 100 := by rw [← vw_len hO.v, List.length_map, List.length_take]; omega
    have HO := hid hO
    have HB := hid hB
    by_cases hlt : k < n
    · have hlz : (k : Int) < (n : Int) := by omega
      obtain ⟨r, hr⟩ : ∃ s, l[k]? = some s := ⟨_, List.getElem?_eq_getElem (by rw [HV.out.2.1]; exact hlt)⟩
      have HR := hid hr
      obtain ⟨rfl, h0, h1, h2, h3⟩ := vw_at (HV.out.1.below hB) hr
      have hbb : b < wr.heap.size := World.block_lt_of_cell? _ _ h0
      have HX := hid (HV.out.2.2.2 r (List.mem_of_getElem? hr))
      clear hB hO hr
      go_wp2_with (first
        | (go_at_call 51; with_reducible refine Calls.mono (Rc.refGrow_any r.x0 r.y0 r.x1 r.y1 k1 k2 k3 k4 wr HX.out HK.out.1 HK.out.2.1 HK.out.2.2.1 HK.out.2.2.2) ?_; rintro e w1 ⟨rfl, hb⟩; replace HO := hid (HO.out.below hb); replace HB := hid (step0 HB.out hb); clear hb)
        | (at_builtin; refine wpList_append_mine _ rfl (.tmp 19) (.tmp 29) 22 22 rfl (HO.out.below ((Below.refl _ _).alloc (Nat.le_refl _) _)) (HB.out.alloc HB.out.size _).size 36 i0 _ 32 Try.underlying22 HI.out.1 HI.out.2.1 HI.out.2.2.1 HI.out.2.2.2 rfl rfl _ 1 (flat [grow ⟨r.x0, r.y0, r.x1, r.y1⟩ k1 k2 k3 k4]) rfl (src22 w1 _) (by simp only [maxLen]; omega) (by omega) ?_; intro eo ec eb eoff w2 hO2 hB2 _ _; rw [← flat_append, take_map HR.out] at hO2; have HO2 := hid hO2; replace HB := hid ((HB.out.alloc HB.out.size _).trans hB2); clear hO2 hB2))
      go_roundg (n - (k + 1))
      case measure => omega
      case rel => exact ⟨k + 1, _, _, _, eb, eoff, hlt, rfl, by simp, rfl, HO2.out, HB.out⟩
    · obtain rfl : n = k := by omega
      replace HO := hid hO
      rw [List.take_of_length_le (by rw [HV.out.2.1]; exact Nat.le_refl _)] at HO
      have hN9 : (l.map fun r => grow r k1 k2 k3 k4).length ≤ 1000 := by rw [List.length_map]; omega
      clear hO hB
      go_wp2_with (go_at_call 13; with_reducible refine Calls.mono (refOf_any wr mo mn1 mc mb moff _ HO.out.v hN9) ?_; rintro e w1 ⟨hr, hb⟩; obtain ⟨ao3, n3, c3, b3, off3, rfl, hv3⟩ := retO hr; have H3 := hid (And.intro (hv3.mono HB.out.size) (step0 HB.out hb)); clear hr hb hv3)
      go_ret
      exact ⟨⟨_, _, _, b3, off3, rfl, H3.out.1⟩, H3.out.2⟩
end Go.Proofs.Ytlakklpnajgjiaa
