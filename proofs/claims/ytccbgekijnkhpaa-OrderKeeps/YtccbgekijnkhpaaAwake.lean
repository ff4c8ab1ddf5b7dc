/- The fixed answers (awake): the contract. -/
import Derived.Test.YtccbgekijnkhpaaRound
import Derived.Test.YtccbgekijnkhpaaNeeded
namespace Go.Proofs.Ytccbgekijnkhpaa
open Num Go.RowKit
set_option linter.unusedVariables false
set_option linter.unusedSimpArgs false

/-- a node that has the one behind q's number as its input, or none -/
def nv1 (q : Nat) (x : Int) : Nv := ⟨0, some ⟨q, 0, none⟩, 1, 1, q, 0, [x], none, 0, 0, 0, 0, []⟩
def nv0 : Nv := ⟨0, none, 0, 0, 0, 0, [], none, 0, 0, 0, 0, []⟩
def awL (q : Nat) : List Nv := [nv1 q 1, nv0, nv1 (q + 1) 1]
def awG : List (List Int) := [[1], [], [1]]
theorem aw_ins (q : Nat) : insL (awL q) = awG := rfl
theorem aw_few (q : Nat) : Few 3 (awL q) := ⟨by decide, fun v hv => by
  simp only [awL, List.mem_cons, List.not_mem_nil, or_false] at hv
  rcases hv with rfl | rfl | rfl <;> simp [nv1, nv0]⟩
theorem aw_vn (w : World) : Vn ((((w.alloc (.cells #[.int .i64 1] 3)).alloc (.cells #[.int .i64 1] 3)).alloc (.cells #[.int .i64 0, .slice (some ⟨w.heap.size, 0, none⟩) 1 1, .slice none 0 0, .int .i64 0, .slice none 0 0, .slice none 0 0, .int .i64 0, .slice (some ⟨w.heap.size + 1, 0, none⟩) 1 1, .slice none 0 0] 36))) (some ⟨w.heap.size + 1 + 1, 0, none⟩) 3 3 (w.heap.size + 1 + 1) 0 (awL w.heap.size) := by
  have l1 := lit_new w 1
  have hz1 : (w.alloc (.cells #[.int .i64 1] 3)).heap.size = w.heap.size + 1 := by simp
  have hb1 : Below (w.alloc (.cells #[.int .i64 1] 3)).heap.size (w.alloc (.cells #[.int .i64 1] 3)) ((w.alloc (.cells #[.int .i64 1] 3)).alloc (.cells #[.int .i64 1] 3)) := (Below.refl _ _).alloc (Nat.le_refl _) _
  have l2 := lit_new (w.alloc (.cells #[.int .i64 1] 3)) 1
  rw [hz1] at l2
  have l1' := l1.below hb1
  have hz2 : ((w.alloc (.cells #[.int .i64 1] 3)).alloc (.cells #[.int .i64 1] 3)).heap.size = w.heap.size + 1 + 1 := by simp
  generalize ((w.alloc (.cells #[.int .i64 1] 3)).alloc (.cells #[.int .i64 1] 3)) = W at *
  have hb2 : Below W.heap.size W (W.alloc (.cells #[.int .i64 0, .slice (some ⟨w.heap.size, 0, none⟩) 1 1, .slice none 0 0, .int .i64 0, .slice none 0 0, .slice none 0 0, .int .i64 0, .slice (some ⟨w.heap.size + 1, 0, none⟩) 1 1, .slice none 0 0] 36)) := (Below.refl _ _).alloc (Nat.le_refl _) _
  have hn := (oz_news (sz := 3) (lo := 0) (w := W) (Nat.zero_le _) (flatN (awL w.heap.size)) 3 rfl (by decide) 36).v
  rw [hz2] at hn
  refine ⟨hn, fun v hv => ?_, fun v hv => ?_⟩
  · simp only [awL, List.mem_cons, List.not_mem_nil, or_false] at hv
    rcases hv with rfl | rfl | rfl
    · exact l1'.below hb2
    · exact vi_nil _ _
    · exact l2.below hb2
  · simp only [awL, List.mem_cons, List.not_mem_nil, or_false] at hv
    rcases hv with rfl | rfl | rfl <;> exact vi_nil _ _
theorem aw_ord : castL (ordG awG) = [1, 0, 2] := by decide
theorem aw_round : roundB awG = false := by decide
theorem aw_nd {N : List Bool} (h : Nd awG 0 N) : N = [true, true, false] := by
  refine nd_uniq h (nd_of rfl (fun k hk hb => ?_) (fun k e hk => ?_) (by decide))
  · have h0 : Rch awG 0 0 := Rch.out 0 rfl (by decide)
    have hk3 : k = 0 ∨ k = 1 ∨ k = 2 := by have : awG.length = 3 := rfl; omega
    rcases hk3 with rfl | rfl | rfl
    · exact h0
    · exact Rch.step 0 1 h0 (by decide) (by decide)
    · exact absurd hb (by decide)
  · have : k = 0 := by omega
    subst this; rfl
/-- one that has itself -/
def bwL (q : Nat) : List Nv := [nv1 q 0]
theorem bw_few (q : Nat) : Few 1 (bwL q) := ⟨by decide, fun v hv => by
  simp only [bwL, List.mem_cons, List.not_mem_nil, or_false] at hv
  subst hv; simp [nv1]⟩
theorem bw_round (q : Nat) : roundB (insL (bwL q)) = true := by show roundB [[0]] = true; decide
theorem bw_vn (w : World) : Vn ((w.alloc (.cells #[.int .i64 0] 3)).alloc (.cells #[.int .i64 0, .slice (some ⟨w.heap.size, 0, none⟩) 1 1, .slice none 0 0] 36)) (some ⟨w.heap.size + 1, 0, none⟩) 1 1 (w.heap.size + 1) 0 (bwL w.heap.size) := by
  have l1 := lit_new w 0
  have hz1 : (w.alloc (.cells #[.int .i64 0] 3)).heap.size = w.heap.size + 1 := by simp
  generalize (w.alloc (.cells #[.int .i64 0] 3)) = W at *
  have hb2 : Below W.heap.size W (W.alloc (.cells #[.int .i64 0, .slice (some ⟨w.heap.size, 0, none⟩) 1 1, .slice none 0 0] 36)) := (Below.refl _ _).alloc (Nat.le_refl _) _
  have hn := (oz_news (sz := 3) (lo := 0) (w := W) (Nat.zero_le _) (flatN (bwL w.heap.size)) 1 rfl (by decide) 36).v
  rw [hz1] at hn
  refine ⟨hn, fun v hv => ?_, fun v hv => ?_⟩
  · simp only [bwL, List.mem_cons, List.not_mem_nil, or_false] at hv
    subst hv; exact l1.below hb2
  · simp only [bwL, List.mem_cons, List.not_mem_nil, or_false] at hv
    subst hv; exact vi_nil _ _
theorem aw_bits {w : World} {ao : Option Addr} {n c b off : Nat} (h : Vt w ao n c b off [true, true, false]) : ao = some ⟨b, off, none⟩ ∧ n = 3 ∧ w.cell? ⟨b, off, none⟩ = some (.bool true) ∧ w.cell? ⟨b, off + 1, none⟩ = some (.bool true) ∧ w.cell? ⟨b, off + 2, none⟩ = some (.bool false) := by
  obtain ⟨h1, h2⟩ := vt_at h (i := 0) rfl
  exact ⟨h1, (vt_len h).symm, h2, (vt_at h (i := 1) rfl).2, (vt_at h (i := 2) rfl).2⟩
theorem lit3 (w : World) (a b c : Int) : Vi (w.alloc (.cells #[.int .i64 a, .int .i64 b, .int .i64 c] 3)) (some ⟨w.heap.size, 0, none⟩) 3 3 w.heap.size 0 [a, b, c] := (oi_news (w := w) (lo := 0) (Nat.zero_le _) [a, b, c] (by simp) 3).v
theorem alloc_low {w w1 : World} (h : Below w.heap.size w w1) (o : Obj) : Below w.heap.size w (w1.alloc o) := h.alloc h.size o

set_option maxRecDepth 100000 in
set_option maxHeartbeats 4000000 in
theorem awake_any (w : World) : Calls Try.prog 8 #[] w fun e w' => e = .returned (.bool true) ∧ Below w.heap.size w w' := by
  have hv := aw_vn w
  have hb0 : Below w.heap.size w ((((w.alloc (.cells #[.int .i64 1] 3)).alloc (.cells #[.int .i64 1] 3)).alloc (.cells #[.int .i64 0, .slice (some ⟨w.heap.size, 0, none⟩) 1 1, .slice none 0 0, .int .i64 0, .slice none 0 0, .slice none 0 0, .int .i64 0, .slice (some ⟨w.heap.size + 1, 0, none⟩) 1 1, .slice none 0 0] 36))) := alloc_low (alloc_low (alloc_low (Below.refl _ _) _) _) _
  have hv1 := hid (And.intro (hv.below ((Below.refl _ _).alloc (Nat.le_refl _) (.cells #[.slice (some ⟨w.heap.size + 1 + 1, 0, none⟩) 3 3, .int .i64 0] 24))) (alloc_low hb0 (.cells #[.slice (some ⟨w.heap.size + 1 + 1, 0, none⟩) 3 3, .int .i64 0] 24)))
  have hbx := bx_new ((((w.alloc (.cells #[.int .i64 1] 3)).alloc (.cells #[.int .i64 1] 3)).alloc (.cells #[.int .i64 0, .slice (some ⟨w.heap.size, 0, none⟩) 1 1, .slice none 0 0, .int .i64 0, .slice none 0 0, .slice none 0 0, .int .i64 0, .slice (some ⟨w.heap.size + 1, 0, none⟩) 1 1, .slice none 0 0] 36))) (some ⟨w.heap.size + 1 + 1, 0, none⟩) 3 3 0 24
  have hz : ((((w.alloc (.cells #[.int .i64 1] 3)).alloc (.cells #[.int .i64 1] 3)).alloc (.cells #[.int .i64 0, .slice (some ⟨w.heap.size, 0, none⟩) 1 1, .slice none 0 0, .int .i64 0, .slice none 0 0, .slice none 0 0, .int .i64 0, .slice (some ⟨w.heap.size + 1, 0, none⟩) 1 1, .slice none 0 0] 36))).heap.size = w.heap.size + 1 + 1 + 1 := by simp
  rw [hz] at hbx
  have HX := hid hbx
  clear hv hb0 hbx hz
  have hf := hid (aw_few w.heap.size)
  go_enter Try.func8, Try.ntmps8
  go_wp2_with (first
    | (go_at_call 15; with_reducible refine Calls.mono (needed_any _ _ _ _ _ (awL w.heap.size) _ _ hv1.out.1 hf.out) ?_; rintro e w1 ⟨⟨N, hr, hN⟩, hb⟩; rw [aw_ins] at hN; rw [aw_nd hN] at hr; obtain ⟨ao, n, c, b, off, rfl, hO⟩ := retT hr; have H1 := hid (And.intro (hv1.out.1.below hb) (And.intro (via (w := w) hv1.out.2 hb) (And.intro (HX.out.below hb) hO))); obtain ⟨x0, x1⟩ := H1.out.2.2.1; clear hr hN hb hO hv1 HX)
    | (go_at_call 11; with_reducible refine Calls.mono (all_any _ _ _ _ _ (awL w.heap.size) _ _ H1.out.1 hf.out) ?_; rintro e w2 ⟨hr, hb⟩; rw [aw_ins, aw_ord] at hr; obtain ⟨ao2, n2, c2, b2, o2, rfl, hO⟩ := retI hr; have H2 := hid (And.intro (H1.out.1.below hb) (And.intro (via (w := w) H1.out.2.1 hb) (And.intro (H1.out.2.2.1.below hb) (And.intro (H1.out.2.2.2.below hb) hO)))); clear hr hb hO x0 x1 H1)
    | (go_at_call 10; with_reducible refine Calls.mono (equal_any _ _ _ _ _ [1, 0, 2] _ _ _ _ _ [1, 0, 2] _ (H2.out.2.2.2.2.v.below ((Below.refl _ _).alloc (Nat.le_refl _) _)) (lit3 _ 1 0 2)) ?_; rintro e w3 ⟨rfl, hb⟩; have hb3 := via (w := w2) ((Below.refl _ _).alloc (Nat.le_refl _) _) hb; have H3 := hid (And.intro (H2.out.1.below hb3) (And.intro (via (w := w) H2.out.2.1 hb3) (H2.out.2.2.1.below hb3))); obtain ⟨rfl, rfl, y0, y1, y2⟩ := aw_bits (H2.out.2.2.2.1.v.below hb3); obtain ⟨x0, x1⟩ := H3.out.2.2; rw [show decide ([(1 : Int), 0, 2] = [1, 0, 2]) = true from rfl]; clear hb hb3 H2)
    | (go_at_call 13; with_reducible refine Calls.mono (round_any _ _ _ _ _ (awL w.heap.size) _ _ H3.out.1 hf.out) ?_; rintro e w4 ⟨rfl, hb⟩; rw [aw_ins, aw_round]; have H4 := hid (via (w := w) H3.out.2.1 hb); clear hb H3 y0 y1 y2 x0 x1)
    | (go_at_call 13; with_reducible refine Calls.mono (round_any _ _ _ _ _ (bwL w4.heap.size) _ _ (bw_vn w4) (bw_few _)) ?_; rintro e w5 ⟨rfl, hb⟩; rw [bw_round]; have H5 := hid (via (w := w) (alloc_low (alloc_low H4.out _) _) hb); clear hb H4))
  go_ret
  exact ⟨rfl, H5.out⟩
end Go.Proofs.Ytccbgekijnkhpaa
