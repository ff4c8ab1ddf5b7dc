/- Whether nodes lead round, by the code: the contract. -/
import Derived.Test.YtleclkjinkbebaaAll
namespace Go.Proofs.Ytleclkjinkbebaa
open Num Go.RowKit
set_option linter.unusedVariables false
set_option linter.unusedSimpArgs false

theorem bx_drew {w : World} {k : Nat} {ao : Option Addr} {n c : Nat} {out : Int} (h : Bx w k ao n c out) : Bx w.drew k ao n c out := ⟨h.c0, h.c1⟩
set_option maxRecDepth 100000 in
set_option maxHeartbeats 2000000 in
theorem round_any (ao : Option Addr) (n c b off : Nat) (L : List Nv) (out : Int) (w : World) (h : Vn w ao n c b off L) (hf : Few n L) :
    Calls Try.prog 14 #[.agg #[.slice ao n c, .int .i64 out]] w fun e w' => e = .returned (.bool (roundB (insL L))) ∧ Below w.heap.size w w' := by
  have hl := vn_len h
  have hn := hf.n
  have hB0 := (Below.refl w.heap.size w).alloc (Nat.le_refl _) (.cells #[.slice ao n c, .int .i64 out] 24)
  have hbx := bx_new w ao n c out 24
  have hG : Hid ((insL L).length = n) := by show (insL L).length = n; rw [insL_len, hl]
  have H := hid (And.intro (h.below hB0.drew) (And.intro hf (And.intro hB0.drew (bx_drew hbx))))
  clear h hl hf hB0 hbx
  go_enter Try.func14, Try.ntmps14
  go_wp2
  go_region_with (go_at_call 17; with_reducible refine Calls.mono (all_any _ _ _ b off L _ _ H.out.1 H.out.2.1) ?_; rintro e w1 ⟨hr, hb⟩; obtain ⟨a2, m, c2, b2, o2, rfl, hO⟩ := retI hr; have H1 := hid (And.intro hO hb); clear hr hO hb; obtain ⟨k0, k1⟩ := H.out.2.2.2.below H1.out.2)
  all_goals
    go_wp2
    go_ret
    have hm := vi_len H1.out.1.v
    rw [castL_len] at hm
    exact ⟨ret_bool (by show decide (m < n) = _; unfold roundB; rw [hG.out, hm]), via (w := w) H.out.2.2.1 H1.out.2⟩
end Go.Proofs.Ytleclkjinkbebaa
