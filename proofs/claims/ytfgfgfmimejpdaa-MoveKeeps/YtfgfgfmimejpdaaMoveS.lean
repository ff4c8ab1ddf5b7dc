/- What the small functions of package move, and of the document beside it, do: contracts. -/
import Derived.Test.YtfgfgfmimejpdaaSmall
import Derived.Test.YtfgfgfmimejpdaaMoveNum
namespace Go.Proofs.Ytfgfgfmimejpdaa
open Num Go.RowKit
set_option linter.unusedVariables false
set_option linter.unusedSimpArgs false
attribute [local go_sem ↓] eqR

theorem half_any (w : World) : Calls Try.prog 39 #[] w fun e w' => e = .returned (.agg #[.int .i64 (-2199023255552), .int .i64 (-2199023255552), .int .i64 2199023255552, .int .i64 2199023255552]) ∧ Below w.heap.size w w' := by
  go_enter Try.func39, Try.ntmps39
  go_wp2
  refine bodyPost_ret (v := .agg #[.int .i64 (-2199023255552), .int .i64 (-2199023255552), .int .i64 2199023255552, .int .i64 2199023255552]) (by simp [results, Try.results39, go_sem]) rfl ⟨rfl, ?_⟩
  go_grown

def halfR : R := ⟨-2199023255552, -2199023255552, 2199023255552, 2199023255552⟩
def withinH (r : R) : Bool := decide (meet r halfR = r)
set_option maxHeartbeats 1000000 in
theorem withinH_any (a b c d : Int) (w : World) (he : empB ⟨a, b, c, d⟩ = false) :
    Calls Try.prog 38 #[.agg #[.int .i64 a, .int .i64 b, .int .i64 c, .int .i64 d], .agg #[.int .i64 (-2199023255552), .int .i64 (-2199023255552), .int .i64 2199023255552, .int .i64 2199023255552]] w fun e w' => e = .returned (.bool (withinH ⟨a, b, c, d⟩)) ∧ Below w.heap.size w w' := by
  have HE := hid he
  clear he
  have hS : S8 w w.heap.size (w.heap.size + 1) a b c d (-2199023255552) (-2199023255552) 2199023255552 2199023255552 ((w.alloc (.cells #[.int .i64 a, .int .i64 b, .int .i64 c, .int .i64 d] 23)).alloc (.cells #[.int .i64 (-2199023255552), .int .i64 (-2199023255552), .int .i64 2199023255552, .int .i64 2199023255552] 23)) := by
    have h1 := ((Rc.Has4.new (W := w) rfl (.int .i64 a) (.int .i64 b) (.int .i64 c) (.int .i64 d) 23).alloc (.cells #[.int .i64 (-2199023255552), .int .i64 (-2199023255552), .int .i64 2199023255552, .int .i64 2199023255552] 23))
    have h2 := Rc.Has4.new (W := w.alloc (.cells #[.int .i64 a, .int .i64 b, .int .i64 c, .int .i64 d] 23)) (k := w.heap.size + 1) (by simp) (.int .i64 (-2199023255552)) (.int .i64 (-2199023255552)) (.int .i64 2199023255552) (.int .i64 2199023255552) 23
    exact ⟨⟨h1.c0, h1.c1, h1.c2, h1.c3, h2.c0, h2.c1, h2.c2, h2.c3⟩, ((Below.refl _ _).alloc (Nat.le_refl _) _).alloc (by simp) _⟩
  go_enter Try.func38, Try.ntmps38
  go_wp2
  go_region_held3 (fun w' => (w'.cell? ⟨w.heap.size, 0, none⟩ = some (.int .i64 a) ∧ w'.cell? ⟨w.heap.size, 1, none⟩ = some (.int .i64 b) ∧ w'.cell? ⟨w.heap.size, 2, none⟩ = some (.int .i64 c) ∧ w'.cell? ⟨w.heap.size, 3, none⟩ = some (.int .i64 d) ∧ w'.cell? ⟨w.heap.size + 1, 0, none⟩ = some (.int .i64 (-2199023255552)) ∧ w'.cell? ⟨w.heap.size + 1, 1, none⟩ = some (.int .i64 (-2199023255552)) ∧ w'.cell? ⟨w.heap.size + 1, 2, none⟩ = some (.int .i64 2199023255552) ∧ w'.cell? ⟨w.heap.size + 1, 3, none⟩ = some (.int .i64 2199023255552)) ∧ Below w.heap.size w w') (repeat (first | with_reducible assumption | with_reducible refine s8_drew ?_ | with_reducible refine s8_below ?_ ‹_›))
    ((first
      | (go_at_call 37; with_reducible refine Calls.mono (Rc.empty_any a b c d _) ?_; rintro e w1 ⟨rfl, hb1⟩; rw [HE.out])
      | (go_at_call 42; with_reducible refine Calls.mono (Rc.meet_any a b c d (-2199023255552) (-2199023255552) 2199023255552 2199023255552 _) ?_; rintro e w2 ⟨rfl, hb2⟩)))
  go_wp2
  go_ret
  exact ⟨ret_bool rfl, (by assumption : _ ∧ Below w.heap.size w w2).2⟩


theorem within_half {T : R} (h0 : -33554432 ≤ T.x0) (h1 : -33554432 ≤ T.y0) (h2 : T.x1 ≤ 33554432) (h3 : T.y1 ≤ 33554432) (he : empB T = false) : withinH T = true := by
  unfold withinH meet halfR
  rw [show (⟨mx T.x0 (-2199023255552), mx T.y0 (-2199023255552), mn T.x1 2199023255552, mn T.y1 2199023255552⟩ : R) = T by
    obtain ⟨p, q, r, s⟩ := T
    obtain ⟨e1, e2⟩ := of_some he
    dsimp only at *
    simp only [R.mk.injEq]
    unfold mx mn
    omega]
  rw [orN_no he]
  simp

theorem tmod_emod {n s : Int} (hs : 0 < s) : n % s = if n.tmod s < 0 then n.tmod s + s else n.tmod s := by
  have h1 : n.tmod s = n % s - ((if 0 ≤ n ∨ s ∣ n then 0 else s.natAbs : Nat) : Int) := Int.tmod_eq_emod
  have h2 := Int.emod_nonneg n (b := s) (by omega)
  have h3 := Int.emod_lt_of_pos n hs
  have h4 : ((s.natAbs : Nat) : Int) = s := by omega
  by_cases c : 0 ≤ n ∨ s ∣ n
  · rw [if_pos c] at h1
    rw [if_neg (by omega)]
    omega
  · rw [if_neg c] at h1
    rw [if_pos (by omega)]
    omega
theorem wrap64_id {n : Int} (h : -9223372036854775808 ≤ n ∧ n ≤ 9223372036854775807) : wrap64 n = n := by
  unfold wrap64
  omega
set_option maxHeartbeats 1000000 in
theorem remainder_any (n s : Int) (w : World) (hs : 0 < s ∧ s ≤ 1099511627776) (hn : -1099511627776 ≤ n ∧ n ≤ 1099511627776) :
    Calls Try.prog 63 #[.int .i64 n, .int .i64 s] w fun e w' => e = .returned (.int .i64 (n % s)) ∧ w' = w := by
  have HE := hid (tmod_emod (n := n) hs.1)
  have h2 := Int.emod_nonneg n (b := s) (by omega)
  have h3 := Int.emod_lt_of_pos n hs.1
  have HB := hid (And.intro h2 h3)
  clear h2 h3
  obtain ⟨s0, s1⟩ := hs
  obtain ⟨n0, n1⟩ := hn
  by_cases c : n.tmod s < 0
  · have hE : n % s = n.tmod s + s := by have := HE.out; rw [if_pos c] at this; exact this
    have HQ : Hid (wrap64 (n.tmod s + s) = n % s) := by
      show wrap64 (n.tmod s + s) = n % s
      rw [← hE]
      have := HB.out
      exact wrap64_id (by omega)
    clear hE
    go_enter Try.func63, Try.ntmps63
    go_wp2
    go_ret
    exact ⟨Rc.ret_int HQ.out, rfl⟩
  · have HQ : Hid (n.tmod s = n % s) := by have := HE.out; rw [if_neg c] at this; exact this.symm
    go_enter Try.func63, Try.ntmps63
    go_wp2
    go_ret
    exact ⟨Rc.ret_int HQ.out, rfl⟩
set_option maxHeartbeats 1000000 in
theorem away_any (n a s : Int) (w : World) (hs : 0 < s ∧ s ≤ 1099511627776) (hn : -268435456 ≤ n ∧ n ≤ 268435456) (ha : -268435456 ≤ a ∧ a ≤ 268435456) :
    Calls Try.prog 40 #[.int .i64 n, .int .i64 a, .int .i64 s] w fun e w' => e = .returned (.int .i64 (awayI n a s)) ∧ w' = w := by
  have h2 := Int.emod_nonneg (n - a) (b := s) (by omega)
  have h3 := Int.emod_lt_of_pos (n - a) hs.1
  have HS := hid hs
  obtain ⟨s0, s1⟩ := hs
  obtain ⟨n0, n1⟩ := hn
  obtain ⟨a0, a1⟩ := ha
  have HU : Hid (-1099511627776 ≤ n - a ∧ n - a ≤ 1099511627776) := by show _ ∧ _; omega
  obtain ⟨q, hq⟩ : ∃ q, q = (n - a) % s := ⟨_, rfl⟩
  rw [← hq] at h2 h3
  have HQ : Hid ((n - a) % s = q) := hq.symm
  have HR : Hid (n - a - q = awayI n a s) := by show n - a - q = awayI n a s; unfold awayI; rw [hq]
  have e1 : IntKind.i64.wrap (n - a) = n - a := by rw [IntKind.wrap_i64]; omega
  have e2 : IntKind.i64.wrap (n - a - q) = n - a - q := by rw [IntKind.wrap_i64]; omega
  clear hq
  go_enter Try.func40, Try.ntmps40
  go_wp2_with (go_at_call 63; with_reducible refine Calls.mono (remainder_any (n - a) s _ HS.out HU.out) ?_; rintro e w1 ⟨rfl, rfl⟩; rw [HQ.out])
  go_ret
  exact ⟨Rc.ret_int HR.out, rfl⟩
set_option maxHeartbeats 1000000 in
theorem back_any (n s : Int) (w : World) (hs : 0 < s ∧ s ≤ 1099511627776) (hn : -1099511627776 ≤ n ∧ n ≤ 1099511627776) :
    Calls Try.prog 46 #[.int .i64 n, .int .i64 s] w fun e w' => e = .returned (.int .i64 (n % s)) ∧ w' = w := by
  have HE := hid (tmod_emod (n := n) hs.1)
  have h2 := Int.emod_nonneg n (b := s) (by omega)
  have h3 := Int.emod_lt_of_pos n hs.1
  have HB := hid (And.intro h2 h3)
  have h5 : n.tmod s + s * n.tdiv s = n := Int.tmod_add_mul_tdiv n s
  have h6 : n.tmod s < s ∧ -s ≤ n.tmod s := by
    have := HE.out
    have := HB.out
    split at * <;> omega
  clear h2 h3
  obtain ⟨s0, s1⟩ := hs
  obtain ⟨n0, n1⟩ := hn
  have hq : -1099511627776 ≤ n.tdiv s ∧ n.tdiv s ≤ 1099511627776 := by
    have := Int.natAbs_tdiv_le_natAbs n s
    omega
  obtain ⟨q0, q1⟩ := hq
  obtain ⟨t, ht⟩ : ∃ t, n.tdiv s * s = t := ⟨_, rfl⟩
  rw [Int.mul_comm, ht] at h5
  have t0 : -4398046511104 ≤ t ∧ t ≤ 4398046511104 := by omega
  obtain ⟨t1, t2⟩ := t0
  have hm : n - t = n.tmod s := by omega
  obtain ⟨q, hqq⟩ : ∃ q, n.tdiv s = q := ⟨_, rfl⟩
  rw [hqq] at ht q0 q1
  by_cases c : n.tmod s < 0
  · have HQ : Hid (wrap64 (n - t + s) = n % s ∧ n - t + s = n % s) := by
      have := HE.out
      rw [if_pos c] at this
      have hb := HB.out
      have e : n - t + s = n % s := by omega
      refine ⟨?_, e⟩
      rw [e]
      exact wrap64_id (by omega)
    have c1 : n - t < 0 := by omega
    clear h5 h6 hm c
    go_enter Try.func46, Try.ntmps46
    go_wp2
    go_ret
    exact ⟨Rc.ret_int (by first | exact HQ.out.2 | exact HQ.out.1), rfl⟩
  · have HQ : Hid (n - t = n % s) := by
      have := HE.out
      rw [if_neg c] at this
      show n - t = n % s
      omega
    have c1 : ¬ n - t < 0 := by omega
    clear h5 h6 hm c
    go_enter Try.func46, Try.ntmps46
    go_wp2
    go_ret
    exact ⟨Rc.ret_int HQ.out, rfl⟩
end Go.Proofs.Ytfgfgfmimejpdaa
