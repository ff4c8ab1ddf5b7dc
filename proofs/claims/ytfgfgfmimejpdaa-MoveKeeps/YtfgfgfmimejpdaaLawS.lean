/- The law's own small functions: contracts. -/
import Derived.Test.YtfgfgfmimejpdaaFine
import Derived.Test.YtfgfgfmimejpdaaPxRight
import Derived.Test.YtfgfgfmimejpdaaAtB
import Derived.Test.YtfgfgfmimejpdaaRightB
import Derived.Test.YtfgfgfmimejpdaaMoveNum
import Derived.Deep.LoopGhost
import Derived.Deep.Light
namespace Go.Proofs.Ytfgfgfmimejpdaa
open Num Go.RowKit
set_option linter.unusedVariables false
set_option linter.unusedSimpArgs false

def nearM (n : Int) : Bool := decide (-16777216 ≤ n ∧ n ≤ 16777216)
theorem nearM_any (n : Int) (w : World) : Calls Try.prog 13 #[.int .i64 n] w fun e w' => e = .returned (.bool (nearM n)) ∧ w' = w := by
  go_enter Try.func13, Try.ntmps13
  go_wp2
  all_goals
    go_ret
    refine ⟨ret_bool ?_, rfl⟩
    unfold nearM
    rw [Bool.eq_iff_iff]
    simp
    omega
def halfB (r : R) : Bool := decide (((-33554432 ≤ r.x0 ∧ -33554432 ≤ r.y0) ∧ (r.x1 ≤ 33554432 ∧ r.y1 ≤ 33554432)) ∧ ((r.x0 ≤ 33554432 ∧ r.y0 ≤ 33554432) ∧ (-33554432 ≤ r.x1 ∧ -33554432 ≤ r.y1)))
set_option maxRecDepth 100000 in
theorem halfB_any (a b c d : Int) (w : World) :
    Calls Try.prog 16 #[.agg #[.int .i64 a, .int .i64 b, .int .i64 c, .int .i64 d]] w fun e w' => e = .returned (.bool (halfB ⟨a, b, c, d⟩)) ∧ Below w.heap.size w w' := by
  go_enter Try.func16, Try.ntmps16
  go_wp2
  all_goals
    go_ret
    refine ⟨ret_bool ?_, (Below.refl _ _).alloc (Nat.le_refl _) _⟩
    unfold halfB
    rw [Bool.eq_iff_iff]
    simp
    try omega
theorem box_law (D : R) (w : World) :
    Calls Try.prog 11 #[.agg #[.int .i64 D.x0, .int .i64 D.y0, .int .i64 D.x1, .int .i64 D.y1]] w fun e w' => e = .returned (.bool (fineF D 0 0 400)) ∧ Below w.heap.size w w' := by
  have hB : Below w.heap.size w (w.alloc (.cells #[.int .i64 D.x0, .int .i64 D.y0, .int .i64 D.x1, .int .i64 D.y1] 23)) := (Below.refl _ _).alloc (Nat.le_refl _) _
  go_enter Try.func11, Try.ntmps11
  go_wp2_with (go_at_call 26; with_reducible refine Calls.mono (refFine_any D 0 0 400 _) ?_; rintro e w1 ⟨rfl, hb1⟩; have HB1 := hid (Rc.via hB hb1); clear hb1)
  go_ret
  exact ⟨rfl, HB1.out⟩

/-- is a buffer right, little, and of right pixels? -/
def rightT (B : R) (n : Nat) (l : List X) : Bool := decide (n ≤ 300) && (bufB B n && l.all rgtB)
theorem rightT_of {B : R} {n : Nat} {l : List X} (h : rightT B n l = true) : n ≤ 300 ∧ bufB B n = true ∧ ∀ p, p ∈ l → rightX p := by
  unfold rightT at h
  simp only [Bool.and_eq_true, decide_eq_true_eq, List.all_eq_true] at h
  exact ⟨h.1, h.2.1, fun p hp => rgt_of (h.2.2 p hp)⟩
theorem all_no {l : List X} {k : Nat} {r : X} (hr : l[k]? = some r) (h : rgtB r = false) : l.all rgtB = false := by
  rw [Bool.eq_false_iff]
  intro hh
  have := (List.all_eq_true.1 hh) r (List.mem_of_getElem? hr)
  rw [h] at this
  cases this
theorem all_yes {l : List X} {n : Nat} (hn : l.length = n) (h : ∀ j, j < n → ∀ r, l[j]? = some r → rgtB r = true) : l.all rgtB = true := by
  rw [List.all_eq_true]
  intro p hp
  obtain ⟨j, hj⟩ := List.getElem?_of_mem hp
  exact h j (by have := (List.getElem?_eq_some_iff.1 hj).1; omega) p hj

set_option maxRecDepth 100000 in
set_option maxHeartbeats 2000000 in
theorem right10_any (B : R) (ao : Option Addr) (n m g off : Nat) (l : List X) (w : World) (h : Vx w ao n m g off l) :
    Calls Try.prog 10 #[.agg #[.int .i64 B.x0, .int .i64 B.y0, .int .i64 B.x1, .int .i64 B.y1, .slice ao n m]] w fun e w' => e = .returned (.bool (rightT B n l)) ∧ Below w.heap.size w w' := by
  have hn := vx_small h
  have hl := vx_len h
  have HV := hid h
  have HS : Hid (Has5 (w.alloc (.cells #[.int .i64 B.x0, .int .i64 B.y0, .int .i64 B.x1, .int .i64 B.y1, .slice ao n m] 26)) w.heap.size B ao n m ∧ Below w.heap.size w (w.alloc (.cells #[.int .i64 B.x0, .int .i64 B.y0, .int .i64 B.x1, .int .i64 B.y1, .slice ao n m] 26))) := ⟨Has5.new rfl _ _ _ _ _ _ _ _, (Below.refl _ _).alloc (Nat.le_refl _) _⟩
  clear h
  by_cases h3 : n ≤ 300
  · have h3i : (n : Int) ≤ 300 := by omega
    rcases hb : bufB ⟨B.x0, B.y0, B.x1, B.y1⟩ n with _ | _
    · have E : rightT B n l = false := by unfold rightT; rw [show bufB B n = false from hb]; simp
      rw [E]
      have HB := hid hb
      clear hb E
      go_enter Try.func10, Try.ntmps10
      go_wp2_with (go_at_call 34; with_reducible refine Calls.mono (refRightB_any B.x0 B.y0 B.x1 B.y1 ao n m _ hn) ?_; rintro e w1 ⟨rfl, hb1⟩; rw [HB.out]; have HS1 := hid (Rc.via HS.out.2 hb1); clear hb1)
      go_ret
      exact ⟨rfl, HS1.out⟩
    · have E : rightT B n l = l.all rgtB := by unfold rightT; rw [show bufB B n = true from hb, decide_eq_true h3]; simp
      have HB := hid hb
      have HE := hid E
      clear hb E
      obtain ⟨p0, p1, p2, p3, p4, pf⟩ := HS.out.1
      go_enter Try.func10, Try.ntmps10
      go_wp2_with (go_at_call 34; with_reducible refine Calls.mono (refRightB_any B.x0 B.y0 B.x1 B.y1 ao n m _ hn) ?_; rintro e w1 ⟨rfl, hb1⟩; rw [HB.out]; have HS1 := hid (And.intro (HS.out.1.below hb1) (Rc.via HS.out.2 hb1)); clear hb1 p0 p1 p2 p3 p4 pf)
      go_loopg [3] n (fun g i wr => ∃ k : Nat, k ≤ n ∧ g = n - k ∧ i = .int .i64 k ∧ (∀ j, j < k → ∀ r, l[j]? = some r → rgtB r = true) ∧ Has5 wr w.heap.size B ao n m ∧ Below w.heap.size w wr)
      case atStart => exact ⟨0, Nat.zero_le _, rfl, rfl, fun j hj => by omega, HS1.out.1, HS1.out.2⟩
      case round =>
        clear HS1
        obtain ⟨k, hk, rfl, rfl, hall, hA, hB⟩ := hrel
        have HA := hid (And.intro hall (And.intro hA hB))
        obtain ⟨-, -, -, -, a4, -⟩ := hA
        clear hall
        by_cases hlt : k < n
        · have hlz : (k : Int) < (n : Int) := by omega
          obtain ⟨r, hr⟩ : ∃ s, l[k]? = some s := ⟨_, List.getElem?_eq_getElem (by omega)⟩
          have HR := hid hr
          obtain ⟨rfl, h0, h1, h2, h3'⟩ := vx_at (HV.out.below hB) hr
          clear hr hB
          rcases hg : rgtB r with _ | _
          · have HG := hid hg
            clear hg
            go_wp2_with (go_at_call 14; with_reducible refine Calls.mono (pxRight_any r _) ?_; rintro e w2 ⟨rfl, hb2⟩; rw [HG.out]; have HB2 := hid (Rc.via HA.out.2.2 hb2); clear hb2)
            go_ret
            exact ⟨ret_bool (by rw [HE.out, all_no HR.out HG.out]), HB2.out⟩
          · have HG := hid hg
            clear hg
            go_wp2_with (go_at_call 14; with_reducible refine Calls.mono (pxRight_any r _) ?_; rintro e w2 ⟨rfl, hb2⟩; rw [HG.out]; have HB2 := hid (And.intro (HA.out.2.1.below hb2) (Rc.via HA.out.2.2 hb2)); clear hb2)
            go_roundg (n - (k + 1))
            case measure => omega
            case rel =>
              refine ⟨k + 1, hlt, rfl, by simp, fun j hj r' hr' => ?_, HB2.out.1, HB2.out.2⟩
              by_cases e : j = k
              · subst e
                have := HR.out
                rw [this] at hr'
                cases hr'
                exact HG.out
              · exact HA.out.1 j (by omega) r' hr'
        · obtain rfl : n = k := by omega
          clear hB
          go_wp2
          go_ret
          exact ⟨ret_bool (by rw [HE.out, all_yes hl HA.out.1]), HA.out.2.2⟩
  · have h3i : ¬ (n : Int) ≤ 300 := by omega
    have E : rightT B n l = false := by unfold rightT; rw [decide_eq_false h3]; rfl
    rw [E]
    go_enter Try.func10, Try.ntmps10
    go_wp2
    go_ret
    exact ⟨rfl, HS.out.2⟩
/-- what stands behind the law's first test -/
structure Gd (B : R) (n : Nat) (l : List X) : Prop where
  n3 : n ≤ 300
  buf : bufB B n = true
  im : l = img B (unimg B l)
  byt : ∀ x y, byteX (unimg B l x y)
  rgt : ∀ x y, rightX (unimg B l x y)
  ok : Ok B
theorem gd_of {w : World} {ao : Option Addr} {n m g off : Nat} {l : List X} {B : R} (h : Vx w ao n m g off l) (hp : ∀ p, p ∈ l → byteX p) (hr : rightT B n l = true) : Gd B n l := by
  obtain ⟨h3, hb, hr⟩ := rightT_of hr
  have hl := vx_len h
  have hu : ∀ (P : X → Prop), P noX → (∀ p, p ∈ l → P p) → ∀ x y, P (unimg B l x y) := by
    intro P h0 h1 x y
    unfold unimg
    rw [List.getD_eq_getElem?_getD]
    rcases e : l[posN B x y]? with _ | p
    · exact h0
    · exact h1 p (List.mem_of_getElem? e)
  have hok : Ok B ∧ l.length = wid B * hei B := by
    rcases buf_cases hb with ⟨e1, e2, e3⟩ | ⟨e1, e2, e3⟩
    · rw [e2, hl, e3]; exact ⟨ok_nil, rfl⟩
    · refine ⟨ok_of_right e2, ?_⟩
      have h1 : area B ≤ 5000 := by omega
      have := (size_of (ok_of_right e2) e1 h1).1
      omega
  exact ⟨h3, hb, img_of hok.2, hu _ byte_no hp, hu _ right_no hr, hok.1⟩
theorem fine_box {D : R} {rx ry most : Int} (h : fineF D rx ry most = true) : (0 ≤ rx ∧ 0 ≤ ry ∧ rx ≤ 255 ∧ ry ≤ 255) ∧ Half D ∧ area (grow D rx ry rx ry) ≤ most := by
  unfold fineF at h
  simp only [Bool.and_eq_true, decide_eq_true_eq] at h
  exact ⟨h.1.1, h.1.2, h.2⟩
theorem fine_area {D : R} {most : Int} (h : fineF D 0 0 most = true) : Half D ∧ area D ≤ most := by
  obtain ⟨-, h1, h2⟩ := fine_box h
  have := grow_area (Z := D) (rx := 0) (ry := 0) h1 (by omega) (by omega)
  exact ⟨h1, Int.le_trans this h2⟩
end Go.Proofs.Ytfgfgfmimejpdaa
