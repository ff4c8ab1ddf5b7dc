/- What a kind's parameters are asked: the contract. -/
import Derived.Test.YtleclkjinkbebaaConcat
namespace Go.Proofs.Ytleclkjinkbebaa
open Num Go.RowKit
set_option linter.unusedVariables false
set_option linter.unusedSimpArgs false

theorem retF_mk {n B b : Nat} {w : World} {ao : Option Addr} {m c off : Nat} {vs : List Value} {fs : List Fn1} (h : Oz 1 B w ao m c b off vs) (hf : Fl n b w vs fs) : RetF n B w (.returned (.slice ao m c)) fs := ⟨_, _, _, _, _, _, rfl, h, hf⟩
theorem retF_nil (n B : Nat) (w : World) : RetF n B w (.returned (.slice none 0 0)) [] := retF_mk (oz_nil 1 B w none) (fl_nil n 0 w)
/-- two lists, put behind one another -/
theorem cat2_in {n B1 B2 : Nat} {w1 w2 : World} {ao1 ao2 : Option Addr} {m1 c1 b1 off1 m2 c2 b2 off2 : Nat} {vs1 vs2 : List Value} {fs1 fs2 : List Fn1}
    (h1 : Oz 1 B1 w1 ao1 m1 c1 b1 off1 vs1) (f1 : Fl n b1 w1 vs1 fs1) (hb : Below w1.heap.size w1 w2) (h2 : Oz 1 B2 w2 ao2 m2 c2 b2 off2 vs2) (f2 : Fl n b2 w2 vs2 fs2) :
    Ls (w2.alloc (.cells #[.slice ao1 m1 c1, .slice ao2 m2 c2] 40)) (some ⟨w2.heap.size, 0, none⟩) 2 2 w2.heap.size 0 [⟨ao1, m1, c1, b1, off1, vs1⟩, ⟨ao2, m2, c2, b2, off2, vs2⟩] := by
  have hb2 : Below w2.heap.size w2 (w2.alloc (.cells #[.slice ao1 m1 c1, .slice ao2 m2 c2] 40)) := (Below.refl _ _).alloc (Nat.le_refl _) _
  have hn := (oz_news (sz := 1) (lo := 0) (w := w2) (Nat.zero_le _) [.slice ao1 m1 c1, .slice ao2 m2 c2] 2 rfl (by decide) 40).v
  refine ⟨hn, fun v hv => ?_, fun v hv => ?_⟩
  · simp only [List.mem_cons, List.not_mem_nil, or_false] at hv
    rcases hv with rfl | rfl
    · exact (h1.v.below hb).below hb2
    · exact h2.v.below hb2
  · simp only [List.mem_cons, List.not_mem_nil, or_false] at hv
    rcases hv with rfl | rfl
    · exact fl_cell f1
    · exact fl_cell f2
theorem cat2_out {n B : Nat} {w1 w2 w3 w' : World} {e : Ending} {b1 b2 : Nat} {vs1 vs2 : List Value} {fs1 fs2 : List Fn1}
    (f1 : Fl n b1 w1 vs1 fs1) (hb : Below w1.heap.size w1 w2) (f2 : Fl n b2 w2 vs2 fs2) (hb3 : Below w2.heap.size w2 w3) (hr : RetS w3.heap.size w' e (vs1 ++ vs2)) (hb' : Below w3.heap.size w3 w') (hB : B ≤ w1.heap.size) (h0 : fs1 ≠ []) : RetF n B w' e (fs1 ++ fs2) := by
  obtain ⟨ao, c, b, off, rfl, hO⟩ := retS hr
  have k1 := via hb hb3
  have hvl : 0 < vs1.length := by have := f1.len; have := List.length_pos_iff.2 h0; omega
  have hbl := (hO.new (by have := hO.v.le; rw [List.length_append] at this; omega)).1
  have s1 := hb.size
  have s2 := hb3.size
  exact retF_mk (hO.mono (by omega)) (fl_app (f1.turn (via k1 hb') (by omega)) (f2.turn (via hb3 hb') (by omega)))
/-- three lists -/
theorem cat3_in {n B1 B2 B3 : Nat} {w1 w2 w3 : World} {ao1 ao2 ao3 : Option Addr} {m1 c1 b1 off1 m2 c2 b2 off2 m3 c3 b3 off3 : Nat} {vs1 vs2 vs3 : List Value} {fs1 fs2 fs3 : List Fn1}
    (h1 : Oz 1 B1 w1 ao1 m1 c1 b1 off1 vs1) (f1 : Fl n b1 w1 vs1 fs1) (hb : Below w1.heap.size w1 w2) (h2 : Oz 1 B2 w2 ao2 m2 c2 b2 off2 vs2) (f2 : Fl n b2 w2 vs2 fs2) (hb' : Below w2.heap.size w2 w3) (h3 : Oz 1 B3 w3 ao3 m3 c3 b3 off3 vs3) (f3 : Fl n b3 w3 vs3 fs3) :
    Ls (w3.alloc (.cells #[.slice ao1 m1 c1, .slice ao2 m2 c2, .slice ao3 m3 c3] 40)) (some ⟨w3.heap.size, 0, none⟩) 3 3 w3.heap.size 0 [⟨ao1, m1, c1, b1, off1, vs1⟩, ⟨ao2, m2, c2, b2, off2, vs2⟩, ⟨ao3, m3, c3, b3, off3, vs3⟩] := by
  have hb2 : Below w3.heap.size w3 (w3.alloc (.cells #[.slice ao1 m1 c1, .slice ao2 m2 c2, .slice ao3 m3 c3] 40)) := (Below.refl _ _).alloc (Nat.le_refl _) _
  have hn := (oz_news (sz := 1) (lo := 0) (w := w3) (Nat.zero_le _) [.slice ao1 m1 c1, .slice ao2 m2 c2, .slice ao3 m3 c3] 3 rfl (by decide) 40).v
  refine ⟨hn, fun v hv => ?_, fun v hv => ?_⟩
  · simp only [List.mem_cons, List.not_mem_nil, or_false] at hv
    rcases hv with rfl | rfl | rfl
    · exact ((h1.v.below hb).below hb').below hb2
    · exact (h2.v.below hb').below hb2
    · exact h3.v.below hb2
  · simp only [List.mem_cons, List.not_mem_nil, or_false] at hv
    rcases hv with rfl | rfl | rfl
    · exact fl_cell f1
    · exact fl_cell f2
    · exact fl_cell f3
theorem cat3_out {n B : Nat} {w1 w2 w3 w4 w' : World} {e : Ending} {b1 b2 b3 : Nat} {vs1 vs2 vs3 : List Value} {fs1 fs2 fs3 : List Fn1}
    (f1 : Fl n b1 w1 vs1 fs1) (hb : Below w1.heap.size w1 w2) (f2 : Fl n b2 w2 vs2 fs2) (hb2 : Below w2.heap.size w2 w3) (f3 : Fl n b3 w3 vs3 fs3) (hb3 : Below w3.heap.size w3 w4) (hr : RetS w4.heap.size w' e (vs1 ++ (vs2 ++ vs3))) (hb' : Below w4.heap.size w4 w') (hB : B ≤ w1.heap.size) (h0 : fs1 ≠ []) : RetF n B w' e (fs1 ++ (fs2 ++ fs3)) := by
  obtain ⟨ao, c, b, off, rfl, hO⟩ := retS hr
  have k2 := via hb2 hb3
  have k1 := via hb k2
  have hvl : 0 < vs1.length := by have := f1.len; have := List.length_pos_iff.2 h0; omega
  have hbl := (hO.new (by have := hO.v.le; rw [List.length_append] at this; omega)).1
  have s1 := hb.size
  have s2 := hb2.size
  have s3 := hb3.size
  exact retF_mk (hO.mono (by omega)) (fl_app (f1.turn (via k1 hb') (by omega)) (fl_app (f2.turn (via k2 hb') (by omega)) (f3.turn (via hb3 hb') (by omega))))

theorem bnds1 : bnds 1 = insB 0 2 (-1048576) 1048576 := rfl
theorem bnds5 : bnds 5 = togB (insB 0 20 (-9223372036854775808) 9223372036854775807) rightM := rfl
theorem insB_ne' {s k : Nat} {lo hi : Int} (h : 0 < k) : insB s k lo hi ≠ [] := by
  intro e
  have := insB_len s k lo hi
  rw [e] at this
  simp at this
  omega
theorem low_of {n b B : Nat} {w w1 w2 : World} {ao : Option Addr} {m c off : Nat} {vs : List Value} {fs : List Fn1} (hO : Oz 1 B w1 ao m c b off vs) (hF : Fl n b w1 vs fs) (hne : fs ≠ []) (hb : Below w.heap.size w w1) (hB : w.heap.size ≤ B) (hk : But b w1 w2) : Below w.heap.size w w2 := by
  have h1 := fl_count hO hF
  have h2 := List.length_pos_iff.2 hne
  have h3 := (hO.new (by have := hO.v.le; omega)).1
  exact hb.trans (hk.low (by omega) hb.size)

/-- one call alone -/
theorem one_call {n : Nat} {fs : List Fn1} {w : World} {q : Nat} {args : Array Value} (h : Calls Try.prog q args w fun e w' => RetF n w.heap.size w' e fs ∧ Below w.heap.size w w') : Calls Try.prog q args w fun e w' => ∃ ao m c, e = .returned (.slice ao m c) ∧ Hid (RetF n w.heap.size w' (.returned (.slice ao m c)) fs ∧ Below w.heap.size w w') :=
  h.mono fun e w' ⟨hr, hb⟩ => by
    obtain ⟨ao, m, c, b, off, vs, rfl, hO, hF⟩ := retF hr
    exact ⟨ao, m, c, rfl, hr, hb⟩
/-- the list and what is asked besides -/
theorem tog_call {n : Nat} {fs : List Fn1} {g : Fn1} {q : Nat} {ao : Option Addr} {m c : Nat} {w w1 : World} (h : Hid (RetF n w.heap.size w1 (.returned (.slice ao m c)) fs ∧ Below w.heap.size w w1)) (hne : fs ≠ []) (hg : ∀ b, Fv n b w1 q #[] g) :
    Calls Try.prog 20 #[.slice ao m c, .func (.func q) #[] #[]] w1 fun e w' => e = .returned (.slice ao m c) ∧ Hid (RetF n w.heap.size w' (.returned (.slice ao m c)) (togB fs g) ∧ Below w.heap.size w w') := by
  obtain ⟨ao', m', c', b, off, vs, he, hO, hF⟩ := retF h.out.1
  cases he
  refine (together_any n _ _ _ _ b off vs fs g q #[] w1 hO hF hne (hg b)).mono fun e w' ⟨he, ⟨vs', h1, h2⟩, hb⟩ => ⟨he, retF_mk h1 h2, low_of hO hF hne h.out.2 (Nat.le_refl _) hb⟩

theorem tog_ne4 {s : Nat} {g : Fn1} : togB (insB s 4 0 255) g ≠ [] := by
  intro e
  have := togB_len (insB s 4 0 255) g
  rw [e, insB_len] at this
  simp at this
theorem tot_of {n B : Nat} {w w2 : World} {ao : Option Addr} {m c b off : Nat} {vs : List Value} {fs : List Fn1} (h : Oz 1 B w2 ao m c b off vs) (hf : Fl n b w vs fs) : m = fs.length := fl_count h hf
theorem cat2_call {n : Nat} {fs1 fs2 : List Fn1} {ao1 ao2 : Option Addr} {m1 c1 m2 c2 : Nat} {w w1 w2 : World} (h1 : Hid (RetF n w.heap.size w1 (.returned (.slice ao1 m1 c1)) fs1 ∧ Below w.heap.size w w1)) (h2 : Hid (RetF n w1.heap.size w2 (.returned (.slice ao2 m2 c2)) fs2 ∧ Below w1.heap.size w1 w2)) (h0 : fs1 ≠ []) (hl : fs1.length + fs2.length ≤ 1000) :
    Calls Try.prog 23 #[.slice (some ⟨w2.heap.size, 0, none⟩) 2 2] (w2.alloc (.cells #[.slice ao1 m1 c1, .slice ao2 m2 c2] 40)) fun e w' => ∃ ao m c, e = .returned (.slice ao m c) ∧ Hid (RetF n w.heap.size w' (.returned (.slice ao m c)) (fs1 ++ fs2) ∧ Below w.heap.size w w') := by
  obtain ⟨_, _, _, b1, off1, vs1, he1, hO1, hF1⟩ := retF h1.out.1
  cases he1
  obtain ⟨_, _, _, b2, off2, vs2, he2, hO2, hF2⟩ := retF h2.out.1
  cases he2
  have k1 := fl_count hO1 hF1
  have k2 := fl_count hO2 hF2
  have k3 := List.length_pos_iff.2 h0
  have hLs := cat2_in hO1 hF1 h2.out.2 hO2 hF2
  have hb3 : Below w2.heap.size w2 (w2.alloc (.cells #[.slice ao1 m1 c1, .slice ao2 m2 c2] 40)) := (Below.refl _ _).alloc (Nat.le_refl _) _
  refine (concat_any _ _ _ _ _ _ _ hLs (by simp [totN]; omega) (by simp [totN]; omega) (by decide)).mono fun e w' ⟨hr, hb⟩ => ?_
  have hr' : RetS (w2.alloc (.cells #[.slice ao1 m1 c1, .slice ao2 m2 c2] 40)).heap.size w' e (vs1 ++ vs2) := by simpa [catV] using hr
  have hR := cat2_out hF1 h2.out.2 hF2 hb3 hr' hb h1.out.2.size h0
  obtain ⟨ao, m, c, b, off, vs, rfl, hO, hF⟩ := retF hR
  exact ⟨ao, m, c, rfl, hR, via (via (via h1.out.2 h2.out.2) hb3) hb⟩
theorem cat3_call {n : Nat} {fs1 fs2 fs3 : List Fn1} {ao1 ao2 ao3 : Option Addr} {m1 c1 m2 c2 m3 c3 : Nat} {w w1 w2 w3 : World} (h1 : Hid (RetF n w.heap.size w1 (.returned (.slice ao1 m1 c1)) fs1 ∧ Below w.heap.size w w1)) (h2 : Hid (RetF n w1.heap.size w2 (.returned (.slice ao2 m2 c2)) fs2 ∧ Below w1.heap.size w1 w2)) (h3 : Hid (RetF n w2.heap.size w3 (.returned (.slice ao3 m3 c3)) fs3 ∧ Below w2.heap.size w2 w3)) (h0 : fs1 ≠ []) (hl : fs1.length + fs2.length + fs3.length ≤ 1000) :
    Calls Try.prog 23 #[.slice (some ⟨w3.heap.size, 0, none⟩) 3 3] (w3.alloc (.cells #[.slice ao1 m1 c1, .slice ao2 m2 c2, .slice ao3 m3 c3] 40)) fun e w' => ∃ ao m c, e = .returned (.slice ao m c) ∧ Hid (RetF n w.heap.size w' (.returned (.slice ao m c)) (fs1 ++ (fs2 ++ fs3)) ∧ Below w.heap.size w w') := by
  obtain ⟨_, _, _, b1, off1, vs1, he1, hO1, hF1⟩ := retF h1.out.1
  cases he1
  obtain ⟨_, _, _, b2, off2, vs2, he2, hO2, hF2⟩ := retF h2.out.1
  cases he2
  obtain ⟨_, _, _, b3, off3, vs3, he3, hO3, hF3⟩ := retF h3.out.1
  cases he3
  have k1 := fl_count hO1 hF1
  have k2 := fl_count hO2 hF2
  have k4 := fl_count hO3 hF3
  have k3 := List.length_pos_iff.2 h0
  have hLs := cat3_in hO1 hF1 h2.out.2 hO2 hF2 h3.out.2 hO3 hF3
  have hb3 : Below w3.heap.size w3 (w3.alloc (.cells #[.slice ao1 m1 c1, .slice ao2 m2 c2, .slice ao3 m3 c3] 40)) := (Below.refl _ _).alloc (Nat.le_refl _) _
  refine (concat_any _ _ _ _ _ _ _ hLs (by simp [totN]; omega) (by simp [totN]; omega) (by decide)).mono fun e w' ⟨hr, hb⟩ => ?_
  have hr' : RetS (w3.alloc (.cells #[.slice ao1 m1 c1, .slice ao2 m2 c2, .slice ao3 m3 c3] 40)).heap.size w' e (vs1 ++ (vs2 ++ vs3)) := by simpa [catV] using hr
  have hR := cat3_out hF1 h2.out.2 hF2 h3.out.2 hF3 hb3 hr' hb h1.out.2.size h0
  obtain ⟨ao, m, c, b, off, vs, rfl, hO, hF⟩ := retF hR
  exact ⟨ao, m, c, rfl, hR, via (via (via (via h1.out.2 h2.out.2) h3.out.2) hb3) hb⟩

set_option maxRecDepth 100000 in
set_option maxHeartbeats 4000000 in
theorem bounds_any (op : Int) (w : World) : Calls Try.prog 15 #[.int .i64 op] w fun e w' => RetF (parI op) w.heap.size w' e (bnds op) ∧ Below w.heap.size w w' := by
  by_cases e1 : op = 1
  · subst e1
    have C := hid (fun w => one_call (coords_any 2 0 2 w (by decide) (by decide)))
    go_enter Try.func15, Try.ntmps15
    go_wp2_with (go_at_call 18; with_reducible refine Calls.mono (C.out _) ?_; rintro e w1 ⟨ao, m, c, rfl, h⟩)
    go_ret
    exact h
  by_cases e2 : op = 2
  · subst e2
    have C := hid (fun w => one_call (radii_any 2 0 w (by decide)))
    go_enter Try.func15, Try.ntmps15
    go_wp2_with (go_at_call 19; with_reducible refine Calls.mono (C.out _) ?_; rintro e w1 ⟨ao, m, c, rfl, h⟩)
    go_ret
    exact h
  by_cases e3 : op = 3
  · subst e3
    have C := hid (fun w => one_call (radii_any 2 0 w (by decide)))
    go_enter Try.func15, Try.ntmps15
    go_wp2_with (go_at_call 19; with_reducible refine Calls.mono (C.out _) ?_; rintro e w1 ⟨ao, m, c, rfl, h⟩)
    go_ret
    exact h
  by_cases e4 : op = 4
  · subst e4
    have C := hid (fun w => one_call (radii_any 2 0 w (by decide)))
    go_enter Try.func15, Try.ntmps15
    go_wp2_with (go_at_call 19; with_reducible refine Calls.mono (C.out _) ?_; rintro e w1 ⟨ao, m, c, rfl, h⟩)
    go_ret
    exact h
  by_cases e5 : op = 5
  · subst e5
    have C := hid (fun w => one_call (within_any 20 0 20 (-9223372036854775808) 9223372036854775807 w (by decide) (by decide)))
    go_enter Try.func15, Try.ntmps15
    go_wp2_with (first
      | (go_at_call 21; with_reducible refine Calls.mono (C.out _) ?_; rintro e w1 ⟨ao, m, c, rfl, h⟩; have C2 := hid (tog_call h (insB_ne' (by decide)) (fun b => fv_tint)); clear h)
      | (go_at_call 20; with_reducible refine Calls.mono C2.out ?_; rintro e w2 ⟨rfl, h⟩))
    go_ret
    exact h
  by_cases e6 : op = 6
  · subst e6
    have C := hid (fun w => one_call (pixel_any 8 0 w (by decide)))
    have C1 := hid (fun w => one_call (coords_any 8 4 4 w (by decide) (by decide)))
    go_enter Try.func15, Try.ntmps15
    go_wp2_with (first
      | (go_at_call 24; with_reducible refine Calls.mono (C.out _) ?_; rintro e w1 ⟨ao, m, c, rfl, h⟩)
      | (go_at_call 18; with_reducible refine Calls.mono (C1.out _) ?_; rintro e w2 ⟨ao2, m2, c2, rfl, h2⟩; have C2 := hid (cat2_call h h2 tog_ne4 (by rw [togB_len, insB_len, insB_len]; decide)); clear h h2)
      | (go_at_call 23; with_reducible refine Calls.mono C2.out ?_; rintro e w3 ⟨ao3, m3, c3, rfl, h⟩))
    go_ret
    exact h
  by_cases e7 : op = 7
  · subst e7
    have C := hid (fun w => one_call (within_any 1 0 1 0 6 w (by decide) (by decide)))
    go_enter Try.func15, Try.ntmps15
    go_wp2_with (go_at_call 21; with_reducible refine Calls.mono (C.out _) ?_; rintro e w1 ⟨ao, m, c, rfl, h⟩)
    go_ret
    exact h
  by_cases e8 : op = 8
  · subst e8
    have C := hid (fun w => one_call (within_any 1 0 1 0 5 w (by decide) (by decide)))
    go_enter Try.func15, Try.ntmps15
    go_wp2_with (go_at_call 21; with_reducible refine Calls.mono (C.out _) ?_; rintro e w1 ⟨ao, m, c, rfl, h⟩)
    go_ret
    exact h
  by_cases e10 : op = 10
  · subst e10
    have C := hid (fun w => one_call (coords_any 4 0 4 w (by decide) (by decide)))
    go_enter Try.func15, Try.ntmps15
    go_wp2_with (first
      | (go_at_call 18; with_reducible refine Calls.mono (C.out _) ?_; rintro e w1 ⟨ao, m, c, rfl, h⟩; have C2 := hid (tog_call h (insB_ne' (by decide)) (fun b => fv_tile (by decide))); clear h)
      | (go_at_call 20; with_reducible refine Calls.mono C2.out ?_; rintro e w2 ⟨rfl, h⟩))
    go_ret
    exact h
  by_cases e11 : op = 11
  · subst e11
    have C := hid (fun w => one_call (coords_any 8 0 2 w (by decide) (by decide)))
    have C1 := hid (fun w => one_call (radii_any 8 2 w (by decide)))
    have C2 := hid (fun w => one_call (pixel_any 8 4 w (by decide)))
    go_enter Try.func15, Try.ntmps15
    go_wp2_with (first
      | (go_at_call 18; with_reducible refine Calls.mono (C.out _) ?_; rintro e w1 ⟨ao, m, c, rfl, h⟩)
      | (go_at_call 19; with_reducible refine Calls.mono (C1.out _) ?_; rintro e w2 ⟨ao2, m2, c2, rfl, h2⟩)
      | (go_at_call 24; with_reducible refine Calls.mono (C2.out _) ?_; rintro e w3 ⟨ao3, m3, c3, rfl, h3⟩; have C3 := hid (cat3_call h h2 h3 (insB_ne' (by decide)) (by rw [togB_len, insB_len, insB_len, insB_len]; decide)); clear h h2 h3)
      | (go_at_call 23; with_reducible refine Calls.mono C3.out ?_; rintro e w4 ⟨ao4, m4, c4, rfl, h⟩))
    go_ret
    exact h
  by_cases e12 : op = 12
  · subst e12
    have C := hid (fun w => one_call (coords_any 4 0 4 w (by decide) (by decide)))
    go_enter Try.func15, Try.ntmps15
    go_wp2_with (go_at_call 18; with_reducible refine Calls.mono (C.out _) ?_; rintro e w1 ⟨ao, m, c, rfl, h⟩)
    go_ret
    exact h
  · have eb : bnds op = [] := by unfold bnds; simp [e1, e2, e3, e4, e5, e6, e7, e8, e10, e11, e12]
    rw [eb]
    clear eb
    go_enter Try.func15, Try.ntmps15
    go_wp2
    go_ret
    exact ⟨retF_nil _ _ _, Below.refl _ _⟩
end Go.Proofs.Ytleclkjinkbebaa
