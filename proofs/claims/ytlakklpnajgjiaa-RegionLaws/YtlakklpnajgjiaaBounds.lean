/- A region's bounds and its area: contracts. -/
import Derived.Test.YtlakklpnajgjiaaGrown
import Derived.Test.YtlakklpnajgjiaaThree
import Derived.Test.YtlakklpnajgjiaaRAreas
namespace Go.Proofs.Ytlakklpnajgjiaa
open Num Go.RowKit
set_option linter.unusedVariables false
set_option linter.unusedSimpArgs false

namespace Num
def boundsF (l : List R) : R := l.foldl join nil
def areaF (l : List R) : Int := l.foldl (fun n r => mn (n + area r) 2305843009213693952) 0
theorem bounds_step {l : List R} {k : Nat} {r : R} (h : l[k]? = some r) : join (boundsF (l.take k)) r = boundsF (l.take (k + 1)) := by
  obtain ⟨hk, rfl⟩ := List.getElem?_eq_some_iff.1 h
  unfold boundsF
  rw [List.take_succ_eq_append_getElem hk, List.foldl_append]
  rfl
theorem area_step {l : List R} {k : Nat} {r : R} (h : l[k]? = some r) : mn (areaF (l.take k) + area r) 2305843009213693952 = areaF (l.take (k + 1)) := by
  obtain ⟨hk, rfl⟩ := List.getElem?_eq_some_iff.1 h
  unfold areaF
  rw [List.take_succ_eq_append_getElem hk, List.foldl_append]
  rfl
theorem areaF_le (l : List R) : 0 ≤ areaF l ∧ areaF l ≤ 2305843009213693952 := by
  unfold areaF
  suffices h : ∀ n : Int, 0 ≤ n ∧ n ≤ 2305843009213693952 → 0 ≤ l.foldl (fun n r => mn (n + area r) 2305843009213693952) n ∧ l.foldl (fun n r => mn (n + area r) 2305843009213693952) n ≤ 2305843009213693952 from h 0 (by omega)
  induction l with
  | nil => intro n h; exact h
  | cons r l ih =>
    intro n h
    have := area_bd r
    exact ih _ (by dsimp only; unfold mn; omega)
end Num

theorem has4_other {w : World} {k : Nat} {v0 v1 v2 v3 : Value} (h : Rc.Has4 w k v0 v1 v2 v3) {g : Nat} (hg : k ≠ g) (u0 u1 u2 u3 : Value) : Rc.Has4 ((((w.setCell ⟨g, 0, none⟩ u0).setCell ⟨g, 1, none⟩ u1).setCell ⟨g, 2, none⟩ u2).setCell ⟨g, 3, none⟩ u3) k v0 v1 v2 v3 := by
  have e := heap_set4 w g 0 1 2 3 k u0 u1 u2 u3 hg
  have c : ∀ o, ((((w.setCell ⟨g, 0, none⟩ u0).setCell ⟨g, 1, none⟩ u1).setCell ⟨g, 2, none⟩ u2).setCell ⟨g, 3, none⟩ u3).cell? ⟨k, o, none⟩ = w.cell? ⟨k, o, none⟩ := fun o => World.cell?_of_block (a := ⟨k, o, none⟩) e
  have f : ∀ o, ((((w.setCell ⟨g, 0, none⟩ u0).setCell ⟨g, 1, none⟩ u1).setCell ⟨g, 2, none⟩ u2).setCell ⟨g, 3, none⟩ u3).frozen? ⟨k, o, none⟩ = w.frozen? ⟨k, o, none⟩ := fun o => World.frozen?_of_block (a := ⟨k, o, none⟩) e
  exact ⟨(c 0).trans h.c0, (c 1).trans h.c1, (c 2).trans h.c2, (c 3).trans h.c3, fun o => (f o).trans (h.fz o)⟩
abbrev HasR (w : World) (k : Nat) (r : R) : Prop := Rc.Has4 w k (.int .i64 r.x0) (.int .i64 r.y0) (.int .i64 r.x1) (.int .i64 r.y1)

attribute [local go_sem ↓] Rc.run_min_i64

set_option maxRecDepth 100000 in
set_option maxHeartbeats 1000000 in
theorem bounds_any (W : World) (ao : Option Addr) (n c b off : Nat) (l : List R) (hv : Vw W ao n c b off l) :
    Calls Try.prog 25 #[.slice ao n c] W fun e w' => e = .returned (.agg #[.int .i64 (boundsF l).x0, .int .i64 (boundsF l).y0, .int .i64 (boundsF l).x1, .int .i64 (boundsF l).y1]) ∧ Below W.heap.size W w' := by
  have hln := vw_len hv
  have hn := vw_small hv
  have HV := hid (And.intro hv hln)
  have HB0 := hid (((Below.refl W.heap.size W).alloc (Nat.le_refl _) (.cells #[.int .i64 0, .int .i64 0, .int .i64 0, .int .i64 0] 36)).alloc (by simp) (.cells #[.int .i64 0, .int .i64 0, .int .i64 0, .int .i64 0] 36))
  have HR0 := hid (((Rc.Has4.new (W := W) rfl (.int .i64 0) (.int .i64 0) (.int .i64 0) (.int .i64 0) 36)).alloc (.cells #[.int .i64 0, .int .i64 0, .int .i64 0, .int .i64 0] 36))
  have HA0 := hid (Rc.Has4.new (W := W.alloc (.cells #[.int .i64 0, .int .i64 0, .int .i64 0, .int .i64 0] 36)) (k := W.heap.size + 1) (by simp) (.int .i64 0) (.int .i64 0) (.int .i64 0) (.int .i64 0) 36)
  clear hv hln
  go_enter Try.func25, Try.ntmps25
  go_wp2
  go_loopg [8] n (fun g v8 wr => ∃ k : Nat, k ≤ n ∧ g = n - k ∧ v8 = .int .i64 (k : Nat) ∧ Below W.heap.size W wr ∧ HasR wr W.heap.size ⟨0, 0, 0, 0⟩ ∧ HasR wr (W.heap.size + 1) (boundsF (l.take k)))
  case atStart => exact ⟨0, Nat.zero_le _, rfl, rfl, HB0.out, HR0.out, HA0.out⟩
  case round =>
    obtain ⟨k, hk, rfl, rfl, hB, hR, hA⟩ := hrel
    obtain ⟨B, hBd⟩ : ∃ B, B = boundsF (l.take k) := ⟨_, rfl⟩
    rw [← hBd] at hA
    have HBd := hid hBd
    have HB := hid hB
    have HR := hid hR
    have HA := hid hA
    by_cases hlt : k < n
    · have hlz : (k : Int) < (n : Int) := by omega
      obtain ⟨r, hr⟩ : ∃ s, l[k]? = some s := ⟨_, List.getElem?_eq_getElem (by rw [HV.out.2]; exact hlt)⟩
      have HS := hid (bounds_step hr)
      obtain ⟨rfl, h0, h1, h2, h3⟩ := vw_at (HV.out.1.below hB) hr
      have hbb : b < wr.heap.size := World.block_lt_of_cell? _ _ h0
      obtain ⟨p0, p1, p2, p3, pf⟩ := id hA
      have hlb : W.heap.size + 1 < wr.heap.size := World.block_lt_of_cell? _ _ p0
      clear hB hR hA hr hBd
      go_wp2_with (go_at_call 52; with_reducible refine Calls.mono (Rc.join_any B.x0 B.y0 B.x1 B.y1 r.x0 r.y0 r.x1 r.y1 _) ?_; rintro e w1 ⟨rfl, hb⟩; replace HB := hid (step1 HB.out hb); replace HR := hid ((HR.out.alloc _).below hb); replace HA := hid ((HA.out.alloc _).below hb); obtain ⟨q0, q1, q2, q3, qf⟩ := id HA.out; clear hb)
      go_roundg (n - (k + 1))
      case measure => omega
      case rel =>
        refine ⟨k + 1, hlt, rfl, by simp, below_set4 HB.out (Nat.le_succ _) _ _ _ _ _ _ _ _, has4_other HR.out (by omega) _ _ _ _, ?_⟩
        rw [← HS.out, ← HBd.out]
        exact has4_set HA.out _ _ _ _
    · obtain rfl : n = k := by omega
      have HE : Hid (B = boundsF l) := by
        have e := hBd
        rw [List.take_of_length_le (by rw [HV.out.2]; exact Nat.le_refl _)] at e
        exact e
      obtain ⟨p0, p1, p2, p3, pf⟩ := id hA
      obtain ⟨q0, q1, q2, q3, qf⟩ := id hR
      clear hB hA hR hBd
      go_wp2
      obtain ⟨s0, s1, s2, s3⟩ := Rc.set4 q0 q1 q2 q3 (.int .i64 B.x0) (.int .i64 B.y0) (.int .i64 B.x1) (.int .i64 B.y1)
      refine bodyPost_ret (v := .agg #[.int .i64 B.x0, .int .i64 B.y0, .int .i64 B.x1, .int .i64 B.y1]) (by simp [results, Try.results25, go_sem, s0, s1, s2, s3]) rfl ⟨by rw [← HE.out], ?_⟩
      exact below_set4 HB.out (Nat.le_refl _) _ _ _ _ _ _ _ _

set_option maxRecDepth 100000 in
set_option maxHeartbeats 1000000 in
theorem area_any (W : World) (ao : Option Addr) (n c b off : Nat) (l : List R) (hv : Vw W ao n c b off l) (hok : ∀ r ∈ l, Ok r) :
    Calls Try.prog 27 #[.slice ao n c] W fun e w' => e = .returned (.int .i64 (areaF l)) ∧ Below W.heap.size W w' := by
  have hln := vw_len hv
  have hn := vw_small hv
  have HV := hid (And.intro hv (And.intro hln hok))
  clear hv hln hok
  go_enter Try.func27, Try.ntmps27
  go_wp2
  go_loopg [3, 8] n (fun g v3 v8 wr => ∃ k : Nat, k ≤ n ∧ g = n - k ∧ v8 = .int .i64 (k : Nat) ∧ Below W.heap.size W wr ∧ v3 = .int .i64 (areaF (l.take k)))
  case atStart => exact ⟨0, Nat.zero_le _, rfl, rfl, Below.refl _ _, rfl⟩
  case round =>
    obtain ⟨k, hk, rfl, rfl, hB, rfl⟩ := hrel
    obtain ⟨s, hs⟩ : ∃ s, s = areaF (l.take k) := ⟨_, rfl⟩
    obtain ⟨s0, s1⟩ : 0 ≤ s ∧ s ≤ 2305843009213693952 := by rw [hs]; exact areaF_le _
    rw [← hs]
    have HS := hid hs
    have HB := hid hB
    by_cases hlt : k < n
    · have hlz : (k : Int) < (n : Int) := by omega
      obtain ⟨r, hr⟩ : ∃ s, l[k]? = some s := ⟨_, List.getElem?_eq_getElem (by rw [HV.out.2.1]; exact hlt)⟩
      have HT := hid (area_step hr)
      have HX := hid (HV.out.2.2 r (List.mem_of_getElem? hr))
      obtain ⟨rfl, h0, h1, h2, h3⟩ := vw_at (HV.out.1.below hB) hr
      have hbb : b < wr.heap.size := World.block_lt_of_cell? _ _ h0
      obtain ⟨a, ha⟩ : ∃ a, a = area r := ⟨_, rfl⟩
      obtain ⟨a0, a1⟩ : 0 ≤ a ∧ a ≤ 2305843009213693952 := by rw [ha]; exact area_bd r
      have HA := hid ha
      clear hB hr hs ha
      go_wp2_with (go_at_call 54; with_reducible refine Calls.mono (Rc.area_any r.x0 r.y0 r.x1 r.y1 _ HX.out) ?_; rintro e w1 ⟨rfl, hb⟩; rw [show area ⟨r.x0, r.y0, r.x1, r.y1⟩ = a from HA.out.symm]; replace HB := hid (step1 HB.out hb); clear hb)
      go_roundg (n - (k + 1))
      case measure => omega
      case rel => exact ⟨k + 1, hlt, rfl, by simp, HB.out, by rw [← HT.out, ← HS.out, ← HA.out]⟩
    · obtain rfl : n = k := by omega
      have HE : Hid (s = areaF l) := by
        have e := hs
        rw [List.take_of_length_le (by rw [HV.out.2.1]; exact Nat.le_refl _)] at e
        exact e
      clear hB hs
      go_wp2
      go_ret
      exact ⟨by rw [← HE.out]; rfl, HB.out⟩
set_option maxRecDepth 100000 in
set_option maxHeartbeats 1000000 in
theorem refAreaL_any (W : World) (ao : Option Addr) (n c b off : Nat) (l : List R) (hv : Vw W ao n c b off l) (hok : ∀ r ∈ l, Ok r) :
    Calls Try.prog 28 #[.slice ao n c] W fun e w' => e = .returned (.int .i64 (areaF l)) ∧ Below W.heap.size W w' := by
  have hln := vw_len hv
  have hn := vw_small hv
  have HV := hid (And.intro hv (And.intro hln hok))
  clear hv hln hok
  go_enter Try.func28, Try.ntmps28
  go_wp2
  go_loopg [3, 4] n (fun g v3 v8 wr => ∃ k : Nat, k ≤ n ∧ g = n - k ∧ v8 = .int .i64 (k : Nat) ∧ Below W.heap.size W wr ∧ v3 = .int .i64 (areaF (l.take k)))
  case atStart => exact ⟨0, Nat.zero_le _, rfl, rfl, Below.refl _ _, rfl⟩
  case round =>
    obtain ⟨k, hk, rfl, rfl, hB, rfl⟩ := hrel
    obtain ⟨s, hs⟩ : ∃ s, s = areaF (l.take k) := ⟨_, rfl⟩
    obtain ⟨s0, s1⟩ : 0 ≤ s ∧ s ≤ 2305843009213693952 := by rw [hs]; exact areaF_le _
    rw [← hs]
    have HS := hid hs
    have HB := hid hB
    by_cases hlt : k < n
    · have hlz : (k : Int) < (n : Int) := by omega
      obtain ⟨r, hr⟩ : ∃ s, l[k]? = some s := ⟨_, List.getElem?_eq_getElem (by rw [HV.out.2.1]; exact hlt)⟩
      have HT := hid (area_step hr)
      have HX := hid (HV.out.2.2 r (List.mem_of_getElem? hr))
      obtain ⟨rfl, h0, h1, h2, h3⟩ := vw_at (HV.out.1.below hB) hr
      have hbb : b < wr.heap.size := World.block_lt_of_cell? _ _ h0
      obtain ⟨a, ha⟩ : ∃ a, a = area r := ⟨_, rfl⟩
      obtain ⟨a0, a1⟩ : 0 ≤ a ∧ a ≤ 2305843009213693952 := by rw [ha]; exact area_bd r
      have HA := hid ha
      clear hB hr hs ha
      by_cases hgt : 2305843009213693952 < s + a
      · have HM := hid (show mn (s + a) 2305843009213693952 = 2305843009213693952 by unfold mn; omega)
        go_wp2_with (go_at_call 55; with_reducible refine Calls.mono (Rc.refArea_any r.x0 r.y0 r.x1 r.y1 _ HX.out) ?_; rintro e w1 ⟨rfl, hb⟩; rw [show area ⟨r.x0, r.y0, r.x1, r.y1⟩ = a from HA.out.symm]; replace HB := hid (step0 HB.out hb); clear hb)
        go_roundg (n - (k + 1))
        case measure => omega
        case rel => exact ⟨k + 1, hlt, rfl, by simp, HB.out, by rw [← HT.out, ← HS.out, ← HA.out, HM.out]⟩
      · have HM := hid (show mn (s + a) 2305843009213693952 = s + a by unfold mn; omega)
        go_wp2_with (go_at_call 55; with_reducible refine Calls.mono (Rc.refArea_any r.x0 r.y0 r.x1 r.y1 _ HX.out) ?_; rintro e w1 ⟨rfl, hb⟩; rw [show area ⟨r.x0, r.y0, r.x1, r.y1⟩ = a from HA.out.symm]; replace HB := hid (step0 HB.out hb); clear hb)
        go_roundg (n - (k + 1))
        case measure => omega
        case rel => exact ⟨k + 1, hlt, rfl, by simp, HB.out, by rw [← HT.out, ← HS.out, ← HA.out, HM.out]⟩
    · obtain rfl : n = k := by omega
      have HE : Hid (s = areaF l) := by
        have e := hs
        rw [List.take_of_length_le (by rw [HV.out.2.1]; exact Nat.le_refl _)] at e
        exact e
      clear hB hs
      go_wp2
      go_ret
      exact ⟨by rw [← HE.out]; rfl, HB.out⟩
end Go.Proofs.Ytlakklpnajgjiaa
