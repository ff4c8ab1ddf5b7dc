/- The document's bounds of a region: the contract. -/
import Derived.Test.YtlakklpnajgjiaaRJoins
namespace Go.Proofs.Ytlakklpnajgjiaa
open Num Go.RowKit
set_option linter.unusedVariables false
set_option linter.unusedSimpArgs false

theorem stepD {w P wc : World} (h : Below w.heap.size w P) (hb : Below P.drew.heap.size P.drew wc) : Below w.heap.size w wc := step0 h.drew hb
theorem hasD {P wc : World} {k : Nat} {v0 v1 v2 v3 : Value} (h : Rc.Has4 P k v0 v1 v2 v3) (hb : Below P.drew.heap.size P.drew wc) : Rc.Has4 wc k v0 v1 v2 v3 := (h.below (Below.refl _ _).drew).below hb

set_option maxRecDepth 100000 in
set_option maxHeartbeats 1000000 in
theorem refBounds_any (W : World) (ao : Option Addr) (n c b off : Nat) (l : List R) (hv : Vw W ao n c b off l) :
    Calls Try.prog 26 #[.slice ao n c] W fun e w' => e = .returned (.agg #[.int .i64 (boundsF l).x0, .int .i64 (boundsF l).y0, .int .i64 (boundsF l).x1, .int .i64 (boundsF l).y1]) ∧ Below W.heap.size W w' := by
  have hln := vw_len hv
  have hn := vw_small hv
  have HV := hid (And.intro hv hln)
  have HB0 := hid (((Below.refl W.heap.size W).alloc (Nat.le_refl _) (.cells #[.int .i64 0, .int .i64 0, .int .i64 0, .int .i64 0] 36)).alloc (by simp) (.cells #[.int .i64 0, .int .i64 0, .int .i64 0, .int .i64 0] 36))
  have HR0 := hid (((Rc.Has4.new (W := W) rfl (.int .i64 0) (.int .i64 0) (.int .i64 0) (.int .i64 0) 36)).alloc (.cells #[.int .i64 0, .int .i64 0, .int .i64 0, .int .i64 0] 36))
  have HA0 := hid (Rc.Has4.new (W := W.alloc (.cells #[.int .i64 0, .int .i64 0, .int .i64 0, .int .i64 0] 36)) (k := W.heap.size + 1) (by simp) (.int .i64 0) (.int .i64 0) (.int .i64 0) (.int .i64 0) 36)
  clear hv hln
  go_enter Try.func26, Try.ntmps26
  go_wp2
  go_loopg [4] n (fun g v8 wr => ∃ k : Nat, k ≤ n ∧ g = n - k ∧ v8 = .int .i64 (k : Nat) ∧ Below W.heap.size W wr ∧ HasR wr W.heap.size ⟨0, 0, 0, 0⟩ ∧ HasR wr (W.heap.size + 1) (boundsF (l.take k)))
  case atStart => exact ⟨0, Nat.zero_le _, rfl, rfl, HB0.out, HR0.out, HA0.out⟩
  case round =>
    obtain ⟨k, hk, rfl, rfl, hB, hR, hA⟩ := hrel
    obtain ⟨B, hBd⟩ : ∃ B, B = boundsF (l.take k) := ⟨_, rfl⟩
    rw [← hBd] at hA
    have HBd := hid hBd
    have HB := hid hB
    have HR := hid hR
    have HA := hid hA
    by_cases hlt : k < n
    · have hlz : (k : Int) < (n : Int) := by omega
      obtain ⟨r, hr⟩ : ∃ s, l[k]? = some s := ⟨_, List.getElem?_eq_getElem (by rw [HV.out.2]; exact hlt)⟩
      have HS := hid (bounds_step hr)
      obtain ⟨rfl, h0, h1, h2, h3⟩ := vw_at (HV.out.1.below hB) hr
      have hbb : b < wr.heap.size := World.block_lt_of_cell? _ _ h0
      obtain ⟨p0, p1, p2, p3, pf⟩ := id hA
      have hlb : W.heap.size + 1 < wr.heap.size := World.block_lt_of_cell? _ _ p0
      clear hB hR hA hr hBd
      go_wp2
      go_region_with (go_at_call 53; with_reducible refine Calls.mono (Rc.refJoin_any B.x0 B.y0 B.x1 B.y1 r.x0 r.y0 r.x1 r.y1 _) ?_; rintro e w1 ⟨rfl, hb⟩; replace HB := hid (stepD HB.out hb); replace HR := hid (hasD HR.out hb); replace HA := hid (hasD HA.out hb); obtain ⟨q0, q1, q2, q3, qf⟩ := id HA.out; clear hb)
      all_goals
        go_wp2
        go_roundg (n - (k + 1))
        case measure => omega
        case rel =>
          refine ⟨k + 1, hlt, rfl, by simp, below_set4 HB.out (Nat.le_succ _) _ _ _ _ _ _ _ _, has4_other HR.out (by omega) _ _ _ _, ?_⟩
          rw [← HS.out, ← HBd.out]
          exact has4_set HA.out _ _ _ _
    · obtain rfl : n = k := by omega
      have HE : Hid (B = boundsF l) := by
        have e := hBd
        rw [List.take_of_length_le (by rw [HV.out.2]; exact Nat.le_refl _)] at e
        exact e
      obtain ⟨p0, p1, p2, p3, pf⟩ := id hA
      obtain ⟨q0, q1, q2, q3, qf⟩ := id hR
      clear hB hA hR hBd
      go_wp2
      obtain ⟨s0, s1, s2, s3⟩ := Rc.set4 q0 q1 q2 q3 (.int .i64 B.x0) (.int .i64 B.y0) (.int .i64 B.x1) (.int .i64 B.y1)
      refine bodyPost_ret (v := .agg #[.int .i64 B.x0, .int .i64 B.y0, .int .i64 B.x1, .int .i64 B.y1]) (by simp [results, Try.results26, go_sem, s0, s1, s2, s3]) rfl ⟨by rw [← HE.out], ?_⟩
      exact below_set4 HB.out (Nat.le_refl _) _ _ _ _ _ _ _ _

end Go.Proofs.Ytlakklpnajgjiaa
