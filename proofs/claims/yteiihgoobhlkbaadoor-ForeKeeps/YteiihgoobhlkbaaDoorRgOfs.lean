/- The region of a list of rectangles, and the document's answer and its tests: contracts. -/
import Derived.Test.YteiihgoobhlkbaaDoorRgOf
import Derived.Test.YteiihgoobhlkbaaDoorRgPlain
import Derived.Test.YteiihgoobhlkbaaDoorRgEdge
namespace Go.Proofs.YteiihgoobhlkbaaDoor.Rg
open Num Go.RowKit
set_option linter.unusedVariables false
set_option linter.unusedSimpArgs false

theorem drew_trans {W w1 : World} (hb : Below W.drew.heap.size W.drew w1) : Below W.heap.size W w1 := Below.trans (Below.refl W.heap.size W).drew hb
set_option maxRecDepth 100000 in
set_option maxHeartbeats 2000000 in
theorem of_any : ∀ (N : Nat) (l : List R) (ao : Option Addr) (n c b off : Nat) (W : World), Vw W ao n c b off l → l.length < N → Ew l → (∀ r ∈ l, Ok r) →
    Calls Tryd.prog 38 #[.slice ao n c] W fun e w' => RetO W.heap.size w' e (setsL orF l []) ∧ Below W.heap.size W w'
  | 0, l, ao, n, c, b, off, W, _, h, _, _ => absurd h (Nat.not_lt_zero _)
  | N + 1, [], ao, n, c, b, off, W, hv, _, _, _ => by
    have hn : n = 0 := (vw_len hv).symm
    subst hn
    go_enter Tryd.func38, Tryd.ntmps38
    go_wp2
    go_ret
    exact ⟨⟨_, _, _, 0, 0, rfl, oz_nil _ _ _ _⟩, Below.refl _ _⟩
  | N + 1, [r], ao, n, c, b, off, W, hv, _, _, hok => by
    have hn : n = 1 := (vw_len hv).symm
    subst hn
    obtain ⟨rfl, h0, h1, h2, h3⟩ := vw_at0 hv
    have HE := hid (one_sets (hok r List.mem_cons_self))
    clear hv
    go_enter Tryd.func38, Tryd.ntmps38
    go_wp2_with (go_at_call 68; with_reducible refine Calls.mono (single_any r.x0 r.y0 r.x1 r.y1 W) ?_; rintro e w1 ⟨hr, hb⟩; rw [show oneL ⟨r.x0, r.y0, r.x1, r.y1⟩ = setsL orF [r] [] from HE.out] at hr; have HB := hid hb; obtain ⟨ao3, n3, c3, b3, off3, rfl, hv3⟩ := retO hr; have HV := hid hv3; clear hr hb hv3)
    go_ret
    exact ⟨⟨_, _, _, _, _, rfl, HV.out⟩, HB.out⟩
  | N + 1, r :: s :: t, ao, n, c, b, off, W, hv, hN, h100, hok => by
    obtain ⟨l, hl⟩ : ∃ l, l = r :: s :: t := ⟨_, rfl⟩
    rw [← hl] at hv hN h100 hok ⊢
    have hln : l.length = n := vw_len hv
    have hn2 : 2 ≤ n := by rw [← hln, hl]; simp
    have hle := hv.le
    obtain rfl := hv.addr (by omega)
    have hn9 := vw_small hv
    obtain ⟨h, hh⟩ : ∃ h, h = n / 2 := ⟨_, rfl⟩
    have hA : Vw W (some ⟨b, off, none⟩) h c b off (l.take h) := vw_take hv (by omega)
    have hD : Vw W (some ⟨b, off + h * 4, none⟩) (n - h) (c - h) b (off + h * 4) (l.drop h) := vw_dropS hv (by omega)
    have okA : ∀ x ∈ l.take h, Ok x := fun x hx => hok x (List.mem_of_mem_take hx)
    have okD : ∀ x ∈ l.drop h, Ok x := fun x hx => hok x (List.mem_of_mem_drop hx)
    have lA : (l.take h).length < N ∧ Ew (l.take h) := ⟨by rw [List.length_take]; omega, ew_take h100 h⟩
    have lD : (l.drop h).length < N ∧ Ew (l.drop h) := ⟨by rw [List.length_drop]; omega, ew_drop h100 h⟩
    have C1 := of_any N (l.take h) (some ⟨b, off, none⟩) h c b off W.drew (hA.below (Below.refl _ _).drew) lA.1 lA.2 okA
    have C2 : ∀ w1, Below W.heap.size W w1 → Calls Tryd.prog 38 #[.slice (some ⟨b, off + h * 4, none⟩) (n - h) (c - h)] w1 fun e w' => RetO w1.heap.size w' e (setsL orF (l.drop h) []) ∧ Below w1.heap.size w1 w' :=
      fun w1 hb => of_any N (l.drop h) _ _ _ b (off + h * 4) w1 (hD.below hb) lD.1 lD.2 okD
    have EJ := cf_halves h100 hok h
    have HC := hid (And.intro C1 (And.intro C2 EJ))
    have hc2 : ¬ c = h := by omega
    have hc3 : ¬ c = n / 2 := by omega
    have z0 : ¬ ((n : Int) = 0) := by omega
    have z1 : ¬ ((n : Int) = 1) := by omega
    have z2 : (n : Int) / 2 = (h : Nat) := by omega
    have z3 : (h : Int) ≤ (n : Int) := by omega
    have z4 : (h : Int) ≤ (c : Int) := by omega
    clear C1 C2 EJ hA hD okA okD lA lD hok hv hl hh hc3 h100
    go_enter Tryd.func38, Tryd.ntmps38
    go_wp2
    go_region_with (first
      | (go_at_call 38; with_reducible refine Calls.mono HC.out.1 ?_; rintro e w1 ⟨hr1, hb1⟩; obtain ⟨ao1, n1, c1, b1, off1, rfl, hO1⟩ := retO hr1; have H1 := hid (And.intro hO1 (drew_trans hb1)); clear hr1 hb1 hO1)
      | (go_at_call 38; with_reducible refine Calls.mono (HC.out.2.1 w1 H1.out.2) ?_; rintro e w2 ⟨hr2, hb2⟩; obtain ⟨ao2, n2, c2, b2, off2, rfl, hO2⟩ := retO hr2; have H2 := hid (And.intro (H1.out.1.below hb2) (And.intro hO2 (H1.out.2.trans (hb2.mono H1.out.2.size)))); clear hr2 hb2 hO2)
      | (go_at_call 33; with_reducible refine Calls.mono (join_any w2 ao1 n1 c1 b1 off1 _ ao2 n2 c2 b2 off2 _ H2.out.1.v H2.out.2.1.v _ HC.out.2.2) ?_; rintro e w3 ⟨hr3, hb3⟩; obtain ⟨ao3, n3, c3, b3, off3, rfl, hO3⟩ := retO hr3; have H3 := hid (And.intro hO3 (H2.out.2.2.trans (hb3.mono H2.out.2.2.size))); clear hr3 hb3 hO3))
    all_goals
      go_wp2
      go_ret
      exact ⟨⟨_, _, _, b3, off3, rfl, H3.out.1.mono H2.out.2.2.size⟩, H3.out.2⟩
theorem step0 {w P wc : World} (h : Below w.heap.size w P) (hb : Below P.heap.size P wc) : Below w.heap.size w wc := h.trans (hb.mono h.size)
theorem step1 {w P wc : World} {o : Obj} (h : Below w.heap.size w P) (hb : Below (P.alloc o).heap.size (P.alloc o) wc) : Below w.heap.size w wc := (h.alloc h.size o).trans (hb.mono (h.alloc h.size o).size)
theorem ow1 {sz B : Nat} {P wc : World} {o : Obj} {ao : Option Addr} {n c b off : Nat} {cs : List Value} (h : Oz sz B P ao n c b off cs) (hb : Below (P.alloc o).heap.size (P.alloc o) wc) : Oz sz B wc ao n c b off cs := (h.below ((Below.refl _ _).alloc (Nat.le_refl _) _)).below hb
theorem new1 (w : World) (a b c d : Int) : Vw (w.alloc (.cells #[.int .i64 a, .int .i64 b, .int .i64 c, .int .i64 d] 34)) (some ⟨w.heap.size, 0, none⟩) 1 1 w.heap.size 0 [⟨a, b, c, d⟩] := (ow_news (B := 0) (Nat.zero_le _) [⟨a, b, c, d⟩] (by simp) 34).v
theorem new2 (w : World) (a b c d p q r s : Int) : Vw (w.alloc (.cells #[.int .i64 a, .int .i64 b, .int .i64 c, .int .i64 d, .int .i64 p, .int .i64 q, .int .i64 r, .int .i64 s] 34)) (some ⟨w.heap.size, 0, none⟩) 2 2 w.heap.size 0 [⟨a, b, c, d⟩, ⟨p, q, r, s⟩] := (ow_news (B := 0) (Nat.zero_le _) [⟨a, b, c, d⟩, ⟨p, q, r, s⟩] (by simp) 34).v
end Go.Proofs.YteiihgoobhlkbaaDoor.Rg
