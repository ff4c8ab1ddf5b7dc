/- What a kind asks for: the contract. -/
import Derived.Test.YtleclkjinkbebaaBounds
namespace Go.Proofs.Ytleclkjinkbebaa
open Num Go.RowKit
set_option linter.unusedVariables false
set_option linter.unusedSimpArgs false

theorem len_call {op : Int} {k : Nat} (h : parI op = k) (w : World) : Calls Try.prog 15 #[.int .i64 op] w fun e w' => ∃ ao c, e = .returned (.slice ao k c) ∧ Hid (Below w.heap.size w w') :=
  (bounds_any op w).mono fun e w' ⟨hr, hb⟩ => by
    obtain ⟨ao, m, c, b, off, vs, rfl, hO, hF⟩ := retF hr
    have hm := fl_count hO hF
    rw [bnds_len, h] at hm
    subst hm
    exact ⟨ao, c, rfl, hb⟩
def arI (op : Int) : Value := .tuple #[.int .i64 (leastI op), .int .i64 (mostI op), .int .i64 (parI op : Int), .bool (kindB op)]
set_option maxRecDepth 100000 in
set_option maxHeartbeats 4000000 in
theorem arity_any (op : Int) (w : World) : Calls Try.prog 9 #[.int .i64 op] w fun e w' => e = .returned (arI op) ∧ Below w.heap.size w w' := by
  by_cases e1 : op = 1
  · subst e1
    have C := hid (fun w => len_call (op := 1) (k := 2) rfl w)
    go_enter Try.func9, Try.ntmps9
    go_wp2_with (go_at_call 15; with_reducible refine Calls.mono (C.out _) ?_; rintro e w1 ⟨ao, c, rfl, h⟩)
    exact bodyPost_ret (v := .tuple #[.int .i64 1, .int .i64 1, .int .i64 2, .bool true]) (by simp [results, Try.results9, go_sem]) rfl ⟨rfl, h⟩
  by_cases e2 : op = 2
  · subst e2
    have C := hid (fun w => len_call (op := 2) (k := 2) rfl w)
    go_enter Try.func9, Try.ntmps9
    go_wp2_with (go_at_call 15; with_reducible refine Calls.mono (C.out _) ?_; rintro e w1 ⟨ao, c, rfl, h⟩)
    exact bodyPost_ret (v := .tuple #[.int .i64 1, .int .i64 1, .int .i64 2, .bool true]) (by simp [results, Try.results9, go_sem]) rfl ⟨rfl, h⟩
  by_cases e3 : op = 3
  · subst e3
    have C := hid (fun w => len_call (op := 3) (k := 2) rfl w)
    go_enter Try.func9, Try.ntmps9
    go_wp2_with (go_at_call 15; with_reducible refine Calls.mono (C.out _) ?_; rintro e w1 ⟨ao, c, rfl, h⟩)
    exact bodyPost_ret (v := .tuple #[.int .i64 1, .int .i64 1, .int .i64 2, .bool true]) (by simp [results, Try.results9, go_sem]) rfl ⟨rfl, h⟩
  by_cases e4 : op = 4
  · subst e4
    have C := hid (fun w => len_call (op := 4) (k := 2) rfl w)
    go_enter Try.func9, Try.ntmps9
    go_wp2_with (go_at_call 15; with_reducible refine Calls.mono (C.out _) ?_; rintro e w1 ⟨ao, c, rfl, h⟩)
    exact bodyPost_ret (v := .tuple #[.int .i64 1, .int .i64 1, .int .i64 2, .bool true]) (by simp [results, Try.results9, go_sem]) rfl ⟨rfl, h⟩
  by_cases e5 : op = 5
  · subst e5
    have C := hid (fun w => len_call (op := 5) (k := 20) rfl w)
    go_enter Try.func9, Try.ntmps9
    go_wp2_with (go_at_call 15; with_reducible refine Calls.mono (C.out _) ?_; rintro e w1 ⟨ao, c, rfl, h⟩)
    exact bodyPost_ret (v := .tuple #[.int .i64 1, .int .i64 1, .int .i64 20, .bool true]) (by simp [results, Try.results9, go_sem]) rfl ⟨rfl, h⟩
  by_cases e6 : op = 6
  · subst e6
    have C := hid (fun w => len_call (op := 6) (k := 8) rfl w)
    go_enter Try.func9, Try.ntmps9
    go_wp2_with (go_at_call 15; with_reducible refine Calls.mono (C.out _) ?_; rintro e w1 ⟨ao, c, rfl, h⟩)
    exact bodyPost_ret (v := .tuple #[.int .i64 0, .int .i64 0, .int .i64 8, .bool true]) (by simp [results, Try.results9, go_sem]) rfl ⟨rfl, h⟩
  by_cases e7 : op = 7
  · subst e7
    have C := hid (fun w => len_call (op := 7) (k := 1) rfl w)
    go_enter Try.func9, Try.ntmps9
    go_wp2_with (go_at_call 15; with_reducible refine Calls.mono (C.out _) ?_; rintro e w1 ⟨ao, c, rfl, h⟩)
    exact bodyPost_ret (v := .tuple #[.int .i64 2, .int .i64 2, .int .i64 1, .bool true]) (by simp [results, Try.results9, go_sem]) rfl ⟨rfl, h⟩
  by_cases e8 : op = 8
  · subst e8
    have C := hid (fun w => len_call (op := 8) (k := 1) rfl w)
    go_enter Try.func9, Try.ntmps9
    go_wp2_with (go_at_call 15; with_reducible refine Calls.mono (C.out _) ?_; rintro e w1 ⟨ao, c, rfl, h⟩)
    exact bodyPost_ret (v := .tuple #[.int .i64 2, .int .i64 2, .int .i64 1, .bool true]) (by simp [results, Try.results9, go_sem]) rfl ⟨rfl, h⟩
  by_cases e9 : op = 9
  · subst e9
    have C := hid (fun w => len_call (op := 9) (k := 0) rfl w)
    go_enter Try.func9, Try.ntmps9
    go_wp2_with (go_at_call 15; with_reducible refine Calls.mono (C.out _) ?_; rintro e w1 ⟨ao, c, rfl, h⟩)
    exact bodyPost_ret (v := .tuple #[.int .i64 1, .int .i64 8, .int .i64 0, .bool true]) (by simp [results, Try.results9, go_sem]) rfl ⟨rfl, h⟩
  by_cases e10 : op = 10
  · subst e10
    have C := hid (fun w => len_call (op := 10) (k := 4) rfl w)
    go_enter Try.func9, Try.ntmps9
    go_wp2_with (go_at_call 15; with_reducible refine Calls.mono (C.out _) ?_; rintro e w1 ⟨ao, c, rfl, h⟩)
    exact bodyPost_ret (v := .tuple #[.int .i64 1, .int .i64 1, .int .i64 4, .bool true]) (by simp [results, Try.results9, go_sem]) rfl ⟨rfl, h⟩
  by_cases e11 : op = 11
  · subst e11
    have C := hid (fun w => len_call (op := 11) (k := 8) rfl w)
    go_enter Try.func9, Try.ntmps9
    go_wp2_with (go_at_call 15; with_reducible refine Calls.mono (C.out _) ?_; rintro e w1 ⟨ao, c, rfl, h⟩)
    exact bodyPost_ret (v := .tuple #[.int .i64 1, .int .i64 1, .int .i64 8, .bool true]) (by simp [results, Try.results9, go_sem]) rfl ⟨rfl, h⟩
  by_cases e12 : op = 12
  · subst e12
    have C := hid (fun w => len_call (op := 12) (k := 4) rfl w)
    go_enter Try.func9, Try.ntmps9
    go_wp2_with (go_at_call 15; with_reducible refine Calls.mono (C.out _) ?_; rintro e w1 ⟨ao, c, rfl, h⟩)
    exact bodyPost_ret (v := .tuple #[.int .i64 1, .int .i64 1, .int .i64 4, .bool true]) (by simp [results, Try.results9, go_sem]) rfl ⟨rfl, h⟩
  · have eb : arI op = .tuple #[.int .i64 0, .int .i64 0, .int .i64 0, .bool false] := by
      have k1 : ¬ (1 ≤ op ∧ op ≤ 12) := by omega
      have k2 : kindB op = false := by
        unfold kindB
        rw [Bool.and_eq_false_iff, decide_eq_false_iff_not, decide_eq_false_iff_not]
        omega
      unfold arI
      rw [k2]
      unfold leastI mostI parI
      simp [e1, e2, e3, e4, e5, e6, e7, e8, e9, e10, e11, e12, k1]
    have e0 : parI op = 0 := by unfold parI; simp [e1, e2, e3, e4, e5, e6, e7, e8, e10, e11, e12]
    rw [eb]
    have C := hid (fun w => len_call (op := op) (k := 0) e0 w)
    clear eb e0
    go_enter Try.func9, Try.ntmps9
    go_wp2_with (go_at_call 15; with_reducible refine Calls.mono (C.out _) ?_; rintro e w1 ⟨ao, c, rfl, h⟩)
    exact bodyPost_ret (v := .tuple #[.int .i64 0, .int .i64 0, .int .i64 0, .bool false]) (by simp [results, Try.results9, go_sem]) rfl ⟨rfl, h⟩
end Go.Proofs.Ytleclkjinkbebaa
