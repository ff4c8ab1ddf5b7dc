/- What asks of the last number something besides; pixels; tiles. -/
import Derived.Test.YtleclkjinkbebaaFv
namespace Go.Proofs.Ytleclkjinkbebaa
open Num Go.RowKit
set_option linter.unusedVariables false
set_option linter.unusedSimpArgs false

theorem coords_any (n s count : Nat) (w : World) (hn : s + count ≤ n) (hc : count ≤ 1000) :
    Calls Try.prog 18 #[.int .i64 (s : Int), .int .i64 (count : Int)] w fun e w' => RetF n w.heap.size w' e (insB s count (-1048576) 1048576) ∧ Below w.heap.size w w' := by
  go_enter Try.func18, Try.ntmps18
  go_wp2_with (go_at_call 21; with_reducible refine Calls.mono (within_any n s count _ _ _ hn hc) ?_; rintro e w1 ⟨hr, hb⟩; obtain ⟨ao, m, c, b, off, vs, rfl, hO, hF⟩ := retF hr; have H := hid (And.intro hO (And.intro hF hb)); clear hr hO hF hb)
  go_ret
  exact ⟨⟨_, _, _, _, _, _, rfl, H.out.1, H.out.2.1⟩, H.out.2.2⟩
theorem radii_any (n s : Nat) (w : World) (hn : s + 2 ≤ n) :
    Calls Try.prog 19 #[.int .i64 (s : Int)] w fun e w' => RetF n w.heap.size w' e (insB s 2 0 255) ∧ Below w.heap.size w w' := by
  go_enter Try.func19, Try.ntmps19
  go_wp2_with (go_at_call 21; with_reducible refine Calls.mono (within_any n s 2 _ _ _ hn (by decide)) ?_; rintro e w1 ⟨hr, hb⟩; obtain ⟨ao, m, c, b, off, vs, rfl, hO, hF⟩ := retF hr; have H := hid (And.intro hO (And.intro hF hb)); clear hr hO hF hb)
  go_ret
  exact ⟨⟨_, _, _, _, _, _, rfl, H.out.1, H.out.2.1⟩, H.out.2.2⟩

set_option maxRecDepth 100000 in
set_option maxHeartbeats 1000000 in
theorem together1_any (n b pa px q1 q2 : Nat) (caps1 caps2 : Array Value) (f g : Fn1) (ao : Option Addr) (c b' off : Nat) (l : List Int) (w : World) (h : Vi w ao n c b' off l)
    (ca : w.cell? ⟨pa, 0, none⟩ = some (fvV q1 caps1)) (cx : w.cell? ⟨px, 0, none⟩ = some (fvV q2 caps2)) (h1 : Fv n b w q1 caps1 f) (h2 : Fv n b w q2 caps2 g) :
    Calls Try.prog 31 #[.slice ao n c, .pointer (some ⟨pa, 0, none⟩), .pointer (some ⟨px, 0, none⟩)] w fun e w' => e = .returned (.bool (f l && g l)) ∧ Below w.heap.size w w' := by
  have HV := hid h
  have HX := hid cx
  have ent1 := h1.ent
  have ent2 := h2.ent
  have H1 := hid h1
  have H2 := hid h2
  unfold fvV at ca cx
  clear h h1 h2
  rcases hf : f l with _ | _
  · have HF := hid hf
    clear hf
    go_enter Try.func31, Try.ntmps31
    go_wp2_with (with_reducible refine Calls.mono (H1.out.call _ (But.refl _ _) _ _ _ _ _ HV.out) ?_; rintro e w1 ⟨rfl, hb⟩; rw [HF.out]; have HB := hid hb; clear hb)
    go_ret
    exact ⟨rfl, HB.out⟩
  · have HF := hid hf
    clear hf
    go_enter Try.func31, Try.ntmps31
    go_wp2_with (first
      | (with_reducible refine Calls.mono (H1.out.call _ (But.refl _ _) _ _ _ _ _ HV.out) ?_; rintro e w1 ⟨rfl, hb⟩; rw [HF.out]; have HB := hid hb; have cx := cell_below hb HX.out; unfold fvV at cx; clear hb)
      | (with_reducible refine Calls.mono (H2.out.call _ (But.of HB.out) _ _ _ _ _ (HV.out.below HB.out)) ?_; rintro e w2 ⟨rfl, hb⟩; have HB2 := hid (via (w := w) HB.out hb); clear hb))
    go_ret
    exact ⟨rfl, HB2.out⟩
end Go.Proofs.Ytleclkjinkbebaa
