/- Whether a matrix is calm, the matrices of the laws, and the fixed answers (awake): the contracts. -/
import Derived.Test.YtageofpkfghllaaRefPixel
namespace Go.Proofs.Ytageofpkfghllaa
open Num Go.RowKit
set_option linter.unusedVariables false
set_option linter.unusedSimpArgs false

/-- four numbers each -/
def eq4 (a b c d p q r s : Int) : Bool := decide (a = p ∧ b = q ∧ c = r ∧ d = s)
theorem eq4_same (a b c d : Int) : eq4 a b c d a b c d = true := by simp [eq4]
theorem eqG (a b c d p q r s : Int) (w : World) : (Op.equalIn 10000 24 (.agg #[.int .u8 a, .int .u8 b, .int .u8 c, .int .u8 d]) (.agg #[.int .u8 p, .int .u8 q, .int .u8 r, .int .u8 s])).run Try.prog w = .ok (eq4 a b c d p q r s) w := by
  have u3 := Try.underlying5
  have a3 := Try.isAgg5
  have z3 := Try.sizeOf5
  rw [show (10000 : Nat) = 9999 + 1 from rfl, Op.equalIn]
  simp only [Sem.run_bind, run_underlying Try.underlying24, Result.andThen_ok]
  simp only [Std.Legacy.Range.forIn_eq_forIn_range', Std.Legacy.Range.size, Nat.sub_zero, Nat.add_sub_cancel, Nat.div_one, List.range'_succ, List.range'_zero, List.forIn_cons, List.forIn_nil]
  by_cases h1 : a = p
  · by_cases h2 : b = q
    · by_cases h3 : c = r
      · by_cases h4 : d = s
        · subst h1; subst h2; subst h3; subst h4; go_simp; simp [eq4]
        · go_simp; simp [eq4, h1, h2, h3, h4]
      · go_simp; simp [eq4, h1, h2, h3]
    · go_simp; simp [eq4, h1, h2]
  · go_simp; simp [eq4, h1]

/-- whether nothing is made of nothing -/
def calmB (l : List Int) : Bool := eq4 (colI l 0 0 0 0 0) (colI l 5 0 0 0 0) (colI l 10 0 0 0 0) (plnI l 15 0 0 0 0) 0 0 0 0
theorem calm_any (ao : Option Addr) (n c b off : Nat) (l : List Int) (w : World) (h : Vi w ao n c b off l) (hM : rightM l = true) :
    Calls Try.prog 14 #[.slice ao n c] w fun e w' => e = .returned (.bool (calmB l)) ∧ Below w.heap.size w w' := by
  have HV := hid (And.intro h hM)
  clear h hM
  have hE := eqG
  have hB := Below.refl w.heap.size w
  have z : (0 : Int) ≤ 0 ∧ (0 : Int) ≤ 255 := by decide
  go_enter Try.func14, Try.ntmps14
  go_wp2_with (first
    | (go_at_call 9; with_reducible refine Calls.mono (mRight_any _ _ _ b off l _ (HV.out.1.below hB)) ?_; rintro e w1 ⟨rfl, hb⟩; rw [HV.out.2]; replace hB := via (w := w) hB hb; clear hb)
    | (go_at_call 12; with_reducible refine Calls.mono (pixel_any _ _ _ b off l _ _ _ _ _ (HV.out.1.below hB) HV.out.2 z z z z) ?_; rintro e w2 ⟨rfl, hb⟩; replace hB := via (w := w) hB hb; clear hb))
  go_ret
  exact ⟨rfl, hB⟩

def sameL : List Int := [256, 0, 0, 0, 0, 0, 256, 0, 0, 0, 0, 0, 256, 0, 0, 0, 0, 0, 256, 0]
def alphasL : List Int := [0, 0, 0, 256, 0, 0, 0, 0, 256, 0, 0, 0, 0, 256, 0, 0, 0, 0, 256, 0]
theorem same_any (w : World) : Calls Try.prog 16 #[] w fun e w' => RetI w.heap.size w' e sameL ∧ Below w.heap.size w w' := by
  go_enter Try.func16, Try.ntmps16
  go_wp2
  go_ret
  exact ⟨⟨_, _, _, _, _, rfl, oi_news (Nat.le_refl _) sameL (by decide) 3⟩, (Below.refl _ _).alloc (Nat.le_refl _) _⟩
theorem alphas_any (w : World) : Calls Try.prog 17 #[] w fun e w' => RetI w.heap.size w' e alphasL ∧ Below w.heap.size w w' := by
  go_enter Try.func17, Try.ntmps17
  go_wp2
  go_ret
  exact ⟨⟨_, _, _, _, _, rfl, oi_news (Nat.le_refl _) alphasL (by decide) 3⟩, (Below.refl _ _).alloc (Nat.le_refl _) _⟩
theorem same_right : rightM sameL = true := by decide
theorem alphas_right : rightM alphasL = true := by decide
theorem nil_right : rightM [] = false := by decide
theorem same_calm : calmB sameL = true := by decide

set_option maxRecDepth 100000 in
set_option maxHeartbeats 1000000 in
theorem awake_any (w : World) : Calls Try.prog 8 #[] w fun e w' => e = .returned (.bool true) ∧ Below w.heap.size w w' := by
  have hE := eqG
  have hB := Below.refl w.heap.size w
  have z : (0 : Int) ≤ 0 ∧ (0 : Int) ≤ 255 := by decide
  have z128 : (0 : Int) ≤ 128 ∧ (128 : Int) ≤ 255 := by decide
  have a0 : colI alphasL 0 0 0 0 128 = 64 := by decide
  have a1 : colI alphasL 5 0 0 0 128 = 64 := by decide
  have a2 : colI alphasL 10 0 0 0 128 = 64 := by decide
  have a3 : plnI alphasL 15 0 0 0 128 = 128 := by decide
  have a4 : eq4 64 64 64 128 64 64 64 128 = true := by decide
  go_enter Try.func8, Try.ntmps8
  go_wp2_with (first
    | (go_at_call 17; with_reducible refine Calls.mono (alphas_any _) ?_; rintro e w1 ⟨hr, hb⟩; obtain ⟨ao, n, c, b, off, rfl, hO⟩ := retI hr; have HO := hid hO; replace hB := via (w := w) hB hb; clear hb hr hO)
    | (go_at_call 12; with_reducible refine Calls.mono (pixel_any _ _ _ b off alphasL _ _ _ _ _ HO.out.v alphas_right z z z z128) ?_; rintro e w2 ⟨rfl, hb⟩; replace hB := via (w := w) hB hb; clear hb HO)
    | (go_at_call 16; with_reducible refine Calls.mono (same_any _) ?_; rintro e w3 ⟨hr, hb⟩; obtain ⟨so, sn, sc, sb, soff, rfl, hO⟩ := retI hr; have HS := hid hO; replace hB := via (w := w) hB hb; clear hb hr hO)
    | (go_at_call 9; with_reducible refine Calls.mono (mRight_any _ _ _ sb soff sameL _ HS.out.v) ?_; rintro e w4 ⟨rfl, hb⟩; rw [same_right]; replace hB := via (w := w) hB hb; clear hb HS)
    | (go_at_call 9; with_reducible refine Calls.mono (mRight_any _ _ _ 0 0 [] _ (vi_nil _ _)) ?_; rintro e w4 ⟨rfl, hb⟩; rw [nil_right]; replace hB := via (w := w) hB hb; clear hb)
    | (go_at_call 14; with_reducible refine Calls.mono (calm_any _ _ _ sb soff sameL _ HS.out.v same_right) ?_; rintro e w4 ⟨rfl, hb⟩; rw [same_calm]; replace hB := via (w := w) hB hb; clear hb HS))
  go_ret
  exact ⟨rfl, hB⟩
end Go.Proofs.Ytageofpkfghllaa
