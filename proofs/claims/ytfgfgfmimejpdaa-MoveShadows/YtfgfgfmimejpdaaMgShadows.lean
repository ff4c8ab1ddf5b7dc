import Derived.Test.YtfgfgfmimejpdaaFine
import Derived.Test.YtfgfgfmimejpdaaPxRight
import Derived.Test.YtfgfgfmimejpdaaAtB
import Derived.Test.YtfgfgfmimejpdaaRightB
import Derived.Test.YtfgfgfmimejpdaaMoveNum
import Derived.Deep.LoopGhost
import Derived.Deep.Light
import Derived.Test.YtfgfgfmimejpdaaRepeat
import Derived.Test.YtfgfgfmimejpdaaMoveS
import Derived.Test.YtfgfgfmimejpdaaRMove
import Derived.Test.YtfgfgfmimejpdaaMoves1
import Derived.Test.YtfgfgfmimejpdaaWith
import Derived.Test.YtfgfgfmimejpdaaSmall
import Derived.BigQuiet
import Derived.Deep.QuietTactic
import Derived.Test.YtfgfgfmimejpdaaBlurNum
import Derived.Outline
import Derived.Handy
import Derived.WalkLawsBesides
import Derived.RegionTactic
import Derived.Deep.RegionHeld3
import Derived.Deep.DrawnRows
import Derived.Test.YtfgfgfmimejpdaaCopyS
import Derived.Test.YtfgfgfmimejpdaaBoth
import Derived.Test.YtfgfgfmimejpdaaBoxB
import Derived.Test.YtfgfgfmimejpdaaRGrow
import Derived.Test.YtfgfgfmimejpdaaRRects
import Derived.Deep.DeepCutAuto
import Derived.Test.YtfgfgfmimejpdaaBoxH
import Derived.Test.YtfgfgfmimejpdaaAlongY
import Derived.Test.YtfgfgfmimejpdaaRMoves
/- The law's own small functions: contracts. -/
namespace Go.Proofs.Ytfgfgfmimejpdaa
open Num Go.RowKit
set_option linter.unusedVariables false
set_option linter.unusedSimpArgs false

def nearM (n : Int) : Bool := decide (-16777216 ≤ n ∧ n ≤ 16777216)
theorem nearM_any (n : Int) (w : World) : Calls Try.prog 13 #[.int .i64 n] w fun e w' => e = .returned (.bool (nearM n)) ∧ w' = w := by
  go_enter Try.func13, Try.ntmps13
  go_wp2
  all_goals
    go_ret
    refine ⟨ret_bool ?_, rfl⟩
    unfold nearM
    rw [Bool.eq_iff_iff]
    simp
    omega
def halfB (r : R) : Bool := decide (((-33554432 ≤ r.x0 ∧ -33554432 ≤ r.y0) ∧ (r.x1 ≤ 33554432 ∧ r.y1 ≤ 33554432)) ∧ ((r.x0 ≤ 33554432 ∧ r.y0 ≤ 33554432) ∧ (-33554432 ≤ r.x1 ∧ -33554432 ≤ r.y1)))
set_option maxRecDepth 100000 in
theorem halfB_any (a b c d : Int) (w : World) :
    Calls Try.prog 16 #[.agg #[.int .i64 a, .int .i64 b, .int .i64 c, .int .i64 d]] w fun e w' => e = .returned (.bool (halfB ⟨a, b, c, d⟩)) ∧ Below w.heap.size w w' := by
  go_enter Try.func16, Try.ntmps16
  go_wp2
  all_goals
    go_ret
    refine ⟨ret_bool ?_, (Below.refl _ _).alloc (Nat.le_refl _) _⟩
    unfold halfB
    rw [Bool.eq_iff_iff]
    simp
    try omega
theorem box_law (D : R) (w : World) :
    Calls Try.prog 11 #[.agg #[.int .i64 D.x0, .int .i64 D.y0, .int .i64 D.x1, .int .i64 D.y1]] w fun e w' => e = .returned (.bool (fineF D 0 0 400)) ∧ Below w.heap.size w w' := by
  have hB : Below w.heap.size w (w.alloc (.cells #[.int .i64 D.x0, .int .i64 D.y0, .int .i64 D.x1, .int .i64 D.y1] 23)) := (Below.refl _ _).alloc (Nat.le_refl _) _
  go_enter Try.func11, Try.ntmps11
  go_wp2_with (go_at_call 26; with_reducible refine Calls.mono (refFine_any D 0 0 400 _) ?_; rintro e w1 ⟨rfl, hb1⟩; have HB1 := hid (Rc.via hB hb1); clear hb1)
  go_ret
  exact ⟨rfl, HB1.out⟩

/-- is a buffer right, little, and of right pixels? -/
def rightT (B : R) (n : Nat) (l : List X) : Bool := decide (n ≤ 300) && (bufB B n && l.all rgtB)
theorem rightT_of {B : R} {n : Nat} {l : List X} (h : rightT B n l = true) : n ≤ 300 ∧ bufB B n = true ∧ ∀ p, p ∈ l → rightX p := by
  unfold rightT at h
  simp only [Bool.and_eq_true, decide_eq_true_eq, List.all_eq_true] at h
  exact ⟨h.1, h.2.1, fun p hp => rgt_of (h.2.2 p hp)⟩
theorem all_no {l : List X} {k : Nat} {r : X} (hr : l[k]? = some r) (h : rgtB r = false) : l.all rgtB = false := by
  rw [Bool.eq_false_iff]
  intro hh
  have := (List.all_eq_true.1 hh) r (List.mem_of_getElem? hr)
  rw [h] at this
  cases this
theorem all_yes {l : List X} {n : Nat} (hn : l.length = n) (h : ∀ j, j < n → ∀ r, l[j]? = some r → rgtB r = true) : l.all rgtB = true := by
  rw [List.all_eq_true]
  intro p hp
  obtain ⟨j, hj⟩ := List.getElem?_of_mem hp
  exact h j (by have := (List.getElem?_eq_some_iff.1 hj).1; omega) p hj

set_option maxRecDepth 100000 in
set_option maxHeartbeats 2000000 in
theorem right10_any (B : R) (ao : Option Addr) (n m g off : Nat) (l : List X) (w : World) (h : Vx w ao n m g off l) :
    Calls Try.prog 10 #[.agg #[.int .i64 B.x0, .int .i64 B.y0, .int .i64 B.x1, .int .i64 B.y1, .slice ao n m]] w fun e w' => e = .returned (.bool (rightT B n l)) ∧ Below w.heap.size w w' := by
  have hn := vx_small h
  have hl := vx_len h
  have HV := hid h
  have HS : Hid (Has5 (w.alloc (.cells #[.int .i64 B.x0, .int .i64 B.y0, .int .i64 B.x1, .int .i64 B.y1, .slice ao n m] 26)) w.heap.size B ao n m ∧ Below w.heap.size w (w.alloc (.cells #[.int .i64 B.x0, .int .i64 B.y0, .int .i64 B.x1, .int .i64 B.y1, .slice ao n m] 26))) := ⟨Has5.new rfl _ _ _ _ _ _ _ _, (Below.refl _ _).alloc (Nat.le_refl _) _⟩
  clear h
  by_cases h3 : n ≤ 300
  · have h3i : (n : Int) ≤ 300 := by omega
    rcases hb : bufB ⟨B.x0, B.y0, B.x1, B.y1⟩ n with _ | _
    · have E : rightT B n l = false := by unfold rightT; rw [show bufB B n = false from hb]; simp
      rw [E]
      have HB := hid hb
      clear hb E
      go_enter Try.func10, Try.ntmps10
      go_wp2_with (go_at_call 34; with_reducible refine Calls.mono (refRightB_any B.x0 B.y0 B.x1 B.y1 ao n m _ hn) ?_; rintro e w1 ⟨rfl, hb1⟩; rw [HB.out]; have HS1 := hid (Rc.via HS.out.2 hb1); clear hb1)
      go_ret
      exact ⟨rfl, HS1.out⟩
    · have E : rightT B n l = l.all rgtB := by unfold rightT; rw [show bufB B n = true from hb, decide_eq_true h3]; simp
      have HB := hid hb
      have HE := hid E
      clear hb E
      obtain ⟨p0, p1, p2, p3, p4, pf⟩ := HS.out.1
      go_enter Try.func10, Try.ntmps10
      go_wp2_with (go_at_call 34; with_reducible refine Calls.mono (refRightB_any B.x0 B.y0 B.x1 B.y1 ao n m _ hn) ?_; rintro e w1 ⟨rfl, hb1⟩; rw [HB.out]; have HS1 := hid (And.intro (HS.out.1.below hb1) (Rc.via HS.out.2 hb1)); clear hb1 p0 p1 p2 p3 p4 pf)
      go_loopg [3] n (fun g i wr => ∃ k : Nat, k ≤ n ∧ g = n - k ∧ i = .int .i64 k ∧ (∀ j, j < k → ∀ r, l[j]? = some r → rgtB r = true) ∧ Has5 wr w.heap.size B ao n m ∧ Below w.heap.size w wr)
      case atStart => exact ⟨0, Nat.zero_le _, rfl, rfl, fun j hj => by omega, HS1.out.1, HS1.out.2⟩
      case round =>
        clear HS1
        obtain ⟨k, hk, rfl, rfl, hall, hA, hB⟩ := hrel
        have HA := hid (And.intro hall (And.intro hA hB))
        obtain ⟨-, -, -, -, a4, -⟩ := hA
        clear hall
        by_cases hlt : k < n
        · have hlz : (k : Int) < (n : Int) := by omega
          obtain ⟨r, hr⟩ : ∃ s, l[k]? = some s := ⟨_, List.getElem?_eq_getElem (by omega)⟩
          have HR := hid hr
          obtain ⟨rfl, h0, h1, h2, h3'⟩ := vx_at (HV.out.below hB) hr
          clear hr hB
          rcases hg : rgtB r with _ | _
          · have HG := hid hg
            clear hg
            go_wp2_with (go_at_call 14; with_reducible refine Calls.mono (pxRight_any r _) ?_; rintro e w2 ⟨rfl, hb2⟩; rw [HG.out]; have HB2 := hid (Rc.via HA.out.2.2 hb2); clear hb2)
            go_ret
            exact ⟨ret_bool (by rw [HE.out, all_no HR.out HG.out]), HB2.out⟩
          · have HG := hid hg
            clear hg
            go_wp2_with (go_at_call 14; with_reducible refine Calls.mono (pxRight_any r _) ?_; rintro e w2 ⟨rfl, hb2⟩; rw [HG.out]; have HB2 := hid (And.intro (HA.out.2.1.below hb2) (Rc.via HA.out.2.2 hb2)); clear hb2)
            go_roundg (n - (k + 1))
            case measure => omega
            case rel =>
              refine ⟨k + 1, hlt, rfl, by simp, fun j hj r' hr' => ?_, HB2.out.1, HB2.out.2⟩
              by_cases e : j = k
              · subst e
                have := HR.out
                rw [this] at hr'
                cases hr'
                exact HG.out
              · exact HA.out.1 j (by omega) r' hr'
        · obtain rfl : n = k := by omega
          clear hB
          go_wp2
          go_ret
          exact ⟨ret_bool (by rw [HE.out, all_yes hl HA.out.1]), HA.out.2.2⟩
  · have h3i : ¬ (n : Int) ≤ 300 := by omega
    have E : rightT B n l = false := by unfold rightT; rw [decide_eq_false h3]; rfl
    rw [E]
    go_enter Try.func10, Try.ntmps10
    go_wp2
    go_ret
    exact ⟨rfl, HS.out.2⟩
/-- what stands behind the law's first test -/
structure Gd (B : R) (n : Nat) (l : List X) : Prop where
  n3 : n ≤ 300
  buf : bufB B n = true
  im : l = img B (unimg B l)
  byt : ∀ x y, byteX (unimg B l x y)
  rgt : ∀ x y, rightX (unimg B l x y)
  ok : Ok B
theorem gd_of {w : World} {ao : Option Addr} {n m g off : Nat} {l : List X} {B : R} (h : Vx w ao n m g off l) (hp : ∀ p, p ∈ l → byteX p) (hr : rightT B n l = true) : Gd B n l := by
  obtain ⟨h3, hb, hr⟩ := rightT_of hr
  have hl := vx_len h
  have hu : ∀ (P : X → Prop), P noX → (∀ p, p ∈ l → P p) → ∀ x y, P (unimg B l x y) := by
    intro P h0 h1 x y
    unfold unimg
    rw [List.getD_eq_getElem?_getD]
    rcases e : l[posN B x y]? with _ | p
    · exact h0
    · exact h1 p (List.mem_of_getElem? e)
  have hok : Ok B ∧ l.length = wid B * hei B := by
    rcases buf_cases hb with ⟨e1, e2, e3⟩ | ⟨e1, e2, e3⟩
    · rw [e2, hl, e3]; exact ⟨ok_nil, rfl⟩
    · refine ⟨ok_of_right e2, ?_⟩
      have h1 : area B ≤ 5000 := by omega
      have := (size_of (ok_of_right e2) e1 h1).1
      omega
  exact ⟨h3, hb, img_of hok.2, hu _ byte_no hp, hu _ right_no hr, hok.1⟩
theorem fine_box {D : R} {rx ry most : Int} (h : fineF D rx ry most = true) : (0 ≤ rx ∧ 0 ≤ ry ∧ rx ≤ 255 ∧ ry ≤ 255) ∧ Half D ∧ area (grow D rx ry rx ry) ≤ most := by
  unfold fineF at h
  simp only [Bool.and_eq_true, decide_eq_true_eq] at h
  exact ⟨h.1.1, h.1.2, h.2⟩
theorem fine_area {D : R} {most : Int} (h : fineF D 0 0 most = true) : Half D ∧ area D ≤ most := by
  obtain ⟨-, h1, h2⟩ := fine_box h
  have := grow_area (Z := D) (rx := 0) (ry := 0) h1 (by omega) (by omega)
  exact ⟨h1, Int.le_trans this h2⟩
end Go.Proofs.Ytfgfgfmimejpdaa
/- Tiles: the contract of the code. -/
namespace Go.Proofs.Ytfgfgfmimejpdaa
open Num Go.RowKit
set_option linter.unusedVariables false
set_option linter.unusedSimpArgs false
attribute [local go_sem ↓] Rc.run_min_i64 Rc.run_max_i64
theorem repeat_all (lo g off n m : Nat) (L : List X) (c n0 : Nat) (w : World) (hO : Ox lo w (some ⟨g, off, none⟩) n m g off L) (hKc : n ≤ c) (hc : c ≤ maxLen) (h0 : 0 < n0) (hnK : n0 ≤ n) (hn5 : n ≤ 5000) :
    Calls Try.prog 44 #[.slice (some ⟨g, off, none⟩) n c, .int .i64 (n0 : Int)] w fun e w' => e = .returned (.tuple #[]) ∧ ∃ L', Rep L L' 0 n n0 ∧ Ox lo w' (some ⟨g, off, none⟩) n m g off L' ∧ But g w w' := by
  have := repeat_any lo g off n m L 0 n c n0 w hO (by omega) hKc hc h0 hnK hn5
  rw [Nat.zero_mul, Nat.add_zero] at this
  exact this
theorem repeat_none (ao : Option Addr) (c k : Nat) (w : World) (hk : k ≤ 5000) : Calls Try.prog 44 #[.slice ao 0 c, .int .i64 (k : Int)] w fun e w' => e = .returned (.tuple #[]) ∧ w' = w := by
  have hz : ¬ (k : Int) < ((0 : Nat) : Int) := by omega
  go_enter Try.func44, Try.ntmps44
  go_wp2
  refine wp_loop_rounds 1 ?_
  rw [rounds_succ]
  go_wp2
  refine bodyPost_end (v := .tuple #[]) (by simp [results, Try.results44, go_sem]) rfl ⟨rfl, rfl⟩

/-- .. and where an answer has no room its block is whichever comes next -/
theorem retK {lo : Nat} {w : World} {e : Ending} {B : R} {l : List X} (h : RetB lo w e B l) (hlo : lo ≤ w.heap.size) : ∃ ao n c g off, e = .returned (.agg #[.int .i64 B.x0, .int .i64 B.y0, .int .i64 B.x1, .int .i64 B.y1, .slice ao n c]) ∧ Ox lo w ao n c g off l ∧ lo ≤ g ∧ g ≤ w.heap.size ∧ (0 < c → g < w.heap.size) ∧ l.length = n := by
  obtain ⟨ao, n, c, g, off, he, hO⟩ := retB h
  have hl := vx_len hO.v
  rcases Nat.eq_zero_or_pos c with hc | hc
  · subst hc
    have h0 : n = 0 := by have := hO.v.le; omega
    subst h0
    obtain rfl : l = [] := List.length_eq_zero_iff.1 hl
    exact ⟨ao, 0, 0, w.heap.size, 0, he, ⟨⟨rfl, Nat.le_refl _, by simp, fun h => absurd h (by omega), lies_nil _ _ _⟩, fun h => absurd h (by omega), fun j h => by simp at h⟩, hlo, Nat.le_refl _, fun h => absurd h (by omega), rfl⟩
  · have := hO.new hc
    exact ⟨ao, n, c, g, off, he, hO, this.1, by omega, fun _ => this.2, hl⟩
/-- while a tile is repeated -/
structure Ts (w : World) (k3 k5 k6 k7 k10 : Nat) (B T M Fi : R) (ao : Option Addr) (n m g off : Nat) (no : Option Addr) (nn nm ng noff : Nat) (f F : Int → Int → X) (wr : World) : Prop where
  s : Has5 wr k3 B ao n m
  t : Rc.Has4 wr k5 (.int .i64 T.x0) (.int .i64 T.y0) (.int .i64 T.x1) (.int .i64 T.y1)
  z : Has5 wr k6 ⟨0, 0, 0, 0⟩ none 0 0
  h : Has5 wr k7 M no nn nm
  i : Rc.Has4 wr k10 (.int .i64 Fi.x0) (.int .i64 Fi.y0) (.int .i64 Fi.x1) (.int .i64 Fi.y1)
  o : Ox w.heap.size wr no nn nm ng noff (img M F)
  v : Vx wr ao n m g off (img B f)
  low : Below w.heap.size w wr
  lo : w.heap.size ≤ ng
  ne : (k3 ≠ ng ∧ k5 ≠ ng ∧ k6 ≠ ng ∧ k10 ≠ ng) ∧ (0 < n → g ≠ ng) ∧ (0 < nm → k7 ≠ ng)
section
variable {w : World} {k3 k5 k6 k7 k10 : Nat} {B T M Fi : R} {ao : Option Addr} {n m g off : Nat} {no : Option Addr} {nn nm ng noff : Nat} {f F : Int → Int → X} {wr wr' : World}
theorem Ts.below (h : Ts w k3 k5 k6 k7 k10 B T M Fi ao n m g off no nn nm ng noff f F wr) (hb : Below wr.heap.size wr wr') : Ts w k3 k5 k6 k7 k10 B T M Fi ao n m g off no nn nm ng noff f F wr' :=
  ⟨h.s.below hb, h.t.below hb, h.z.below hb, h.h.below hb, h.i.below hb, h.o.below hb, h.v.below hb, Rc.via h.low hb, h.lo, h.ne⟩
theorem Ts.to (h : Ts w k3 k5 k6 k7 k10 B T M Fi ao n m g off no nn nm ng noff f F wr) (hb : But ng wr wr') (h7 : Has5 wr' k7 M no nn nm) {L : List X} {F' : Int → Int → X} (ho : Ox w.heap.size wr' no nn nm ng noff L) (e : L = img M F') : Ts w k3 k5 k6 k7 k10 B T M Fi ao n m g off no nn nm ng noff f F' wr' :=
  ⟨h.s.but hb h.ne.1.1, has4_but h.t hb h.ne.1.2.1, h.z.but hb h.ne.1.2.2.1, h7, has4_but h.i hb h.ne.1.2.2.2, e ▸ ho, vz_but h.v hb (fun hc => h.ne.2.1 (by have := h.v.len; omega)), h.low.trans (hb.low h.lo h.low.size), h.lo, h.ne⟩
end
abbrev T13 (a b c : Nat) (B A r : R) (v : Value) (w' : World) : Prop := w'.cell? ⟨a, 0, none⟩ = some (.int .i64 B.x0) ∧ w'.cell? ⟨a, 1, none⟩ = some (.int .i64 B.y0) ∧ w'.cell? ⟨a, 2, none⟩ = some (.int .i64 B.x1) ∧ w'.cell? ⟨a, 3, none⟩ = some (.int .i64 B.y1) ∧ w'.cell? ⟨a, 4, none⟩ = some (v) ∧ w'.cell? ⟨b, 0, none⟩ = some (.int .i64 A.x0) ∧ w'.cell? ⟨b, 1, none⟩ = some (.int .i64 A.y0) ∧ w'.cell? ⟨b, 2, none⟩ = some (.int .i64 A.x1) ∧ w'.cell? ⟨b, 3, none⟩ = some (.int .i64 A.y1) ∧ w'.cell? ⟨c, 0, none⟩ = some (.int .i64 r.x0) ∧ w'.cell? ⟨c, 1, none⟩ = some (.int .i64 r.y0) ∧ w'.cell? ⟨c, 2, none⟩ = some (.int .i64 r.x1) ∧ w'.cell? ⟨c, 3, none⟩ = some (.int .i64 r.y1)
theorem T13_block {a b c : Nat} {B A r : R} {v : Value} {w1 w2 : World} (h : T13 a b c B A r v w1) (e0 : a < w1.heap.size → w2.heap[a]? = w1.heap[a]?) (e1 : b < w1.heap.size → w2.heap[b]? = w1.heap[b]?) (e2 : c < w1.heap.size → w2.heap[c]? = w1.heap[c]?) : T13 a b c B A r v w2 := by
  obtain ⟨c0, c1, c2, c3, c4, c5, c6, c7, c8, c9, c10, c11, c12⟩ := h
  have e0 := fun o => World.cell?_of_block (a := ⟨a, o, none⟩) (e0 (World.block_lt_of_cell? w1 ⟨a, 0, none⟩ c0))
  have e1 := fun o => World.cell?_of_block (a := ⟨b, o, none⟩) (e1 (World.block_lt_of_cell? w1 ⟨b, 0, none⟩ c5))
  have e2 := fun o => World.cell?_of_block (a := ⟨c, o, none⟩) (e2 (World.block_lt_of_cell? w1 ⟨c, 0, none⟩ c9))
  exact ⟨by rw [e0]; exact c0, by rw [e0]; exact c1, by rw [e0]; exact c2, by rw [e0]; exact c3, by rw [e0]; exact c4, by rw [e1]; exact c5, by rw [e1]; exact c6, by rw [e1]; exact c7, by rw [e1]; exact c8, by rw [e2]; exact c9, by rw [e2]; exact c10, by rw [e2]; exact c11, by rw [e2]; exact c12⟩
theorem T13_below {a b c : Nat} {B A r : R} {v : Value} {w1 w2 : World} (h : T13 a b c B A r v w1) (hb : Below w1.heap.size w1 w2) : T13 a b c B A r v w2 := T13_block h (fun l => hb.block _ l) (fun l => hb.block _ l) (fun l => hb.block _ l)
theorem T13_drew {a b c : Nat} {B A r : R} {v : Value} {w1 : World} (h : T13 a b c B A r v w1) : T13 a b c B A r v w1.drew := T13_below h (Below.refl _ _).drew
theorem T13_alloc {a b c : Nat} {B A r : R} {v : Value} {w1 : World} {o : Obj} (h : T13 a b c B A r v w1) : T13 a b c B A r v (w1.alloc o) := T13_below h ((Below.refl _ _).alloc (Nat.le_refl _) _)
theorem T13_but {a b c : Nat} {B A r : R} {v : Value} {g : Nat} {w1 w2 : World} (h : T13 a b c B A r v w1) (hb : But g w1 w2) (h0 : a ≠ g) (h1 : b ≠ g) (h2 : c ≠ g) : T13 a b c B A r v w2 := T13_block h (fun l => hb.block _ l h0) (fun l => hb.block _ l h1) (fun l => hb.block _ l h2)
theorem T13_set5 {a b c : Nat} {B A r : R} {v : Value} {j : Nat} {w1 : World} {v0 v1 v2 v3 v4 : Value} (h : T13 a b c B A r v w1) (h0 : a ≠ j) (h1 : b ≠ j) (h2 : c ≠ j) : T13 a b c B A r v (((((w1.setCell ⟨j, 0, none⟩ v0).setCell ⟨j, 1, none⟩ v1).setCell ⟨j, 2, none⟩ v2).setCell ⟨j, 3, none⟩ v3).setCell ⟨j, 4, none⟩ v4) := T13_but h (but_set5 w1 j v0 v1 v2 v3 v4) h0 h1 h2
theorem T13_set4 {a b c : Nat} {B A r : R} {v : Value} {j : Nat} {w1 : World} {v0 v1 v2 v3 : Value} (h : T13 a b c B A r v w1) (h0 : a ≠ j) (h1 : b ≠ j) (h2 : c ≠ j) : T13 a b c B A r v ((((w1.setCell ⟨j, 0, none⟩ v0).setCell ⟨j, 1, none⟩ v1).setCell ⟨j, 2, none⟩ v2).setCell ⟨j, 3, none⟩ v3) := T13_but h (but_set4 w1 j v0 v1 v2 v3) h0 h1 h2
abbrev T9 (a b : Nat) (B A : R) (v : Value) (w' : World) : Prop := w'.cell? ⟨a, 0, none⟩ = some (.int .i64 B.x0) ∧ w'.cell? ⟨a, 1, none⟩ = some (.int .i64 B.y0) ∧ w'.cell? ⟨a, 2, none⟩ = some (.int .i64 B.x1) ∧ w'.cell? ⟨a, 3, none⟩ = some (.int .i64 B.y1) ∧ w'.cell? ⟨a, 4, none⟩ = some (v) ∧ w'.cell? ⟨b, 0, none⟩ = some (.int .i64 A.x0) ∧ w'.cell? ⟨b, 1, none⟩ = some (.int .i64 A.y0) ∧ w'.cell? ⟨b, 2, none⟩ = some (.int .i64 A.x1) ∧ w'.cell? ⟨b, 3, none⟩ = some (.int .i64 A.y1)
theorem T9_block {a b : Nat} {B A : R} {v : Value} {w1 w2 : World} (h : T9 a b B A v w1) (e0 : a < w1.heap.size → w2.heap[a]? = w1.heap[a]?) (e1 : b < w1.heap.size → w2.heap[b]? = w1.heap[b]?) : T9 a b B A v w2 := by
  obtain ⟨c0, c1, c2, c3, c4, c5, c6, c7, c8⟩ := h
  have e0 := fun o => World.cell?_of_block (a := ⟨a, o, none⟩) (e0 (World.block_lt_of_cell? w1 ⟨a, 0, none⟩ c0))
  have e1 := fun o => World.cell?_of_block (a := ⟨b, o, none⟩) (e1 (World.block_lt_of_cell? w1 ⟨b, 0, none⟩ c5))
  exact ⟨by rw [e0]; exact c0, by rw [e0]; exact c1, by rw [e0]; exact c2, by rw [e0]; exact c3, by rw [e0]; exact c4, by rw [e1]; exact c5, by rw [e1]; exact c6, by rw [e1]; exact c7, by rw [e1]; exact c8⟩
theorem T9_below {a b : Nat} {B A : R} {v : Value} {w1 w2 : World} (h : T9 a b B A v w1) (hb : Below w1.heap.size w1 w2) : T9 a b B A v w2 := T9_block h (fun l => hb.block _ l) (fun l => hb.block _ l)
theorem T9_drew {a b : Nat} {B A : R} {v : Value} {w1 : World} (h : T9 a b B A v w1) : T9 a b B A v w1.drew := T9_below h (Below.refl _ _).drew
theorem T9_alloc {a b : Nat} {B A : R} {v : Value} {w1 : World} {o : Obj} (h : T9 a b B A v w1) : T9 a b B A v (w1.alloc o) := T9_below h ((Below.refl _ _).alloc (Nat.le_refl _) _)
theorem T9_but {a b : Nat} {B A : R} {v : Value} {g : Nat} {w1 w2 : World} (h : T9 a b B A v w1) (hb : But g w1 w2) (h0 : a ≠ g) (h1 : b ≠ g) : T9 a b B A v w2 := T9_block h (fun l => hb.block _ l h0) (fun l => hb.block _ l h1)
theorem T9_set5 {a b : Nat} {B A : R} {v : Value} {j : Nat} {w1 : World} {v0 v1 v2 v3 v4 : Value} (h : T9 a b B A v w1) (h0 : a ≠ j) (h1 : b ≠ j) : T9 a b B A v (((((w1.setCell ⟨j, 0, none⟩ v0).setCell ⟨j, 1, none⟩ v1).setCell ⟨j, 2, none⟩ v2).setCell ⟨j, 3, none⟩ v3).setCell ⟨j, 4, none⟩ v4) := T9_but h (but_set5 w1 j v0 v1 v2 v3 v4) h0 h1
theorem T9_set4 {a b : Nat} {B A : R} {v : Value} {j : Nat} {w1 : World} {v0 v1 v2 v3 : Value} (h : T9 a b B A v w1) (h0 : a ≠ j) (h1 : b ≠ j) : T9 a b B A v ((((w1.setCell ⟨j, 0, none⟩ v0).setCell ⟨j, 1, none⟩ v1).setCell ⟨j, 2, none⟩ v2).setCell ⟨j, 3, none⟩ v3) := T9_but h (but_set4 w1 j v0 v1 v2 v3) h0 h1

set_option maxRecDepth 100000 in
set_option maxHeartbeats 8000000 in
theorem tile_any (B : R) (ao : Option Addr) (n m g off : Nat) (f : Int → Int → X) (A T : R) (w : World) (hn : n ≤ 5000) (hb : bufB B n = true) (h : Vx w ao n m g off (img B f)) (hA : (-33554432 ≤ A.x0 ∧ A.x0 ≤ 33554432) ∧ (-33554432 ≤ A.y0 ∧ A.y0 ≤ 33554432) ∧ (-33554432 ≤ A.x1 ∧ A.x1 ≤ 33554432) ∧ (-33554432 ≤ A.y1 ∧ A.y1 ≤ 33554432)) (ha : area A ≤ 5000) (hT : (-33554432 ≤ T.x0 ∧ -33554432 ≤ T.y0) ∧ (T.x1 ≤ 33554432 ∧ T.y1 ≤ 33554432)) (eT : empB T = false) :
    Calls Try.prog 18 #[.agg #[.int .i64 B.x0, .int .i64 B.y0, .int .i64 B.x1, .int .i64 B.y1, .slice ao n m], .agg #[.int .i64 A.x0, .int .i64 A.y0, .int .i64 A.x1, .int .i64 A.y1], .agg #[.int .i64 T.x0, .int .i64 T.y0, .int .i64 T.x1, .int .i64 T.y1]] w fun e w' => RetB w.heap.size w' e (orN A) (img (orN A) (tileG T (atX B f))) ∧ Below w.heap.size w w' := by
  have hok : Ok A := by unfold Ok; omega
  obtain ⟨W0, hW0⟩ : ∃ W0, W0 = ((((w.alloc (.cells #[.int .i64 B.x0, .int .i64 B.y0, .int .i64 B.x1, .int .i64 B.y1, .slice ao n m] 26)).alloc (.cells #[.int .i64 A.x0, .int .i64 A.y0, .int .i64 A.x1, .int .i64 A.y1] 23)).alloc (.cells #[.int .i64 T.x0, .int .i64 T.y0, .int .i64 T.x1, .int .i64 T.y1] 23)).alloc (.cells #[.int .i64 0, .int .i64 0, .int .i64 0, .int .i64 0, .slice none 0 0] 26)) := ⟨_, rfl⟩
  have HA : Hid (Has5 W0 w.heap.size B ao n m ∧ Rc.Has4 W0 (w.heap.size + 1) (.int .i64 A.x0) (.int .i64 A.y0) (.int .i64 A.x1) (.int .i64 A.y1) ∧ Rc.Has4 W0 (w.heap.size + 1 + 1) (.int .i64 T.x0) (.int .i64 T.y0) (.int .i64 T.x1) (.int .i64 T.y1) ∧ Has5 W0 (w.heap.size + 1 + 1 + 1) ⟨0, 0, 0, 0⟩ none 0 0 ∧ Below w.heap.size w W0 ∧ w.heap.size + 1 + 1 + 1 < W0.heap.size) := by
    subst hW0
    exact ⟨(((Has5.new rfl _ _ _ _ _ _ _ _).alloc _).alloc _).alloc _, ((Rc.Has4.new (by simp) _ _ _ _ _).alloc _).alloc _, (Rc.Has4.new (by simp) _ _ _ _ _).alloc _, Has5.new (by simp) _ _ _ _ _ _ _ _, ((((Below.refl _ _).alloc (Nat.le_refl _) _).alloc (by simp) _).alloc (by simp; omega) _).alloc (by simp; omega) _, by simp⟩
  subst hW0
  obtain ⟨q0, q1, q2, q3, qf⟩ := HA.out.2.1
  obtain ⟨M, hM⟩ : ∃ M, M = orN A := ⟨_, rfl⟩
  have HQ := hid hM
  have HU : Hid (bufB M (wid M * hei M) = true ∧ wid M * hei M ≤ 5000 ∧ Ok M ∧ (M = nil ∨ empB M = false)) := by
    have := buf_new hok ha
    rw [hM]
    exact ⟨this.1, this.2.1, ok_orN hok, this.2.2⟩
  have hMb : (-33554432 ≤ M.x0 ∧ M.x0 ≤ 33554432) ∧ (-33554432 ≤ M.y0 ∧ M.y0 ≤ 33554432) ∧ (-33554432 ≤ M.x1 ∧ M.x1 ≤ 33554432) ∧ (-33554432 ≤ M.y1 ∧ M.y1 ≤ 33554432) := by
    rw [hM]
    rcases orN_or A with e | e <;> rw [e]
    · unfold nil; decide
    · exact hA
  have HH := hid (And.intro hok (And.intro ha (And.intro h hb)))
  have hwT := within_half hT.1.1 hT.1.2 hT.2.1 hT.2.2 eT
  have HE : Hid (empB ⟨T.x0, T.y0, T.x1, T.y1⟩ = false ∧ withinH ⟨T.x0, T.y0, T.x1, T.y1⟩ = true) := ⟨eT, hwT⟩
  obtain ⟨e1, e2⟩ := of_some eT
  obtain ⟨⟨t0, t1⟩, t2, t3⟩ := hT
  have HT : Hid (((-33554432 ≤ T.x0 ∧ -33554432 ≤ T.y0) ∧ (T.x1 ≤ 33554432 ∧ T.y1 ≤ 33554432)) ∧ empB T = false ∧ Ok ⟨T.x0, T.y0, T.x1, T.y1⟩) := ⟨⟨⟨t0, t1⟩, t2, t3⟩, eT, by unfold Ok; dsimp only; omega⟩
  rw [← hM]
  obtain ⟨⟨m0, m1⟩, ⟨m2, m3⟩, ⟨m4, m5⟩, m6, m7⟩ := hMb
  clear hM h hb hok ha hA eT hwT
  go_enter Try.func18, Try.ntmps18
  go_upto_region 2 with (go_at_call 36; with_reducible refine Calls.mono (new_any A.x0 A.y0 A.x1 A.y1 _ HH.out.1 HH.out.2.1) ?_; rintro e w1 ⟨hr, hb1⟩; rw [show orN ⟨A.x0, A.y0, A.x1, A.y1⟩ = M from HQ.out.symm] at hr; obtain ⟨no, nn, nm, ng, noff, rfl, hO, hg1, hg0, hg2, hln⟩ := retK hr hb1.size; rw [img_len] at hln; have HL := hid (And.intro hg1 (And.intro hg2 (And.intro hln hg0))); have HO1 := hid hO; have HB1 := hid hb1; have hz1 := hb1.size; clear hr hb1 hO hg1 hg2 hg0 hln q0 q1 q2 q3 qf)
  have HS1 : Hid (Has5 (w1.alloc (.cells #[.int .i64 M.x0, .int .i64 M.y0, .int .i64 M.x1, .int .i64 M.y1, .slice no nn nm] 26)) w.heap.size B ao n m ∧ Rc.Has4 (w1.alloc (.cells #[.int .i64 M.x0, .int .i64 M.y0, .int .i64 M.x1, .int .i64 M.y1, .slice no nn nm] 26)) (w.heap.size + 1 + 1) (.int .i64 T.x0) (.int .i64 T.y0) (.int .i64 T.x1) (.int .i64 T.y1) ∧ Has5 (w1.alloc (.cells #[.int .i64 M.x0, .int .i64 M.y0, .int .i64 M.x1, .int .i64 M.y1, .slice no nn nm] 26)) (w.heap.size + 1 + 1 + 1) ⟨0, 0, 0, 0⟩ none 0 0 ∧ Has5 (w1.alloc (.cells #[.int .i64 M.x0, .int .i64 M.y0, .int .i64 M.x1, .int .i64 M.y1, .slice no nn nm] 26)) w1.heap.size M no nn nm ∧ Ox w.heap.size (w1.alloc (.cells #[.int .i64 M.x0, .int .i64 M.y0, .int .i64 M.x1, .int .i64 M.y1, .slice no nn nm] 26)) no nn nm ng noff (img M fun _ _ => noX) ∧ Vx (w1.alloc (.cells #[.int .i64 M.x0, .int .i64 M.y0, .int .i64 M.x1, .int .i64 M.y1, .slice no nn nm] 26)) ao n m g off (img B f) ∧ Below w.heap.size w (w1.alloc (.cells #[.int .i64 M.x0, .int .i64 M.y0, .int .i64 M.x1, .int .i64 M.y1, .slice no nn nm] 26)) ∧ w.heap.size ≤ ng ∧ ((w.heap.size ≠ ng ∧ w.heap.size + 1 + 1 ≠ ng ∧ w.heap.size + 1 + 1 + 1 ≠ ng) ∧ (0 < n → g ≠ ng) ∧ (0 < nm → w1.heap.size ≠ ng)) ∧ (w.heap.size < w1.heap.size ∧ w.heap.size + 1 + 1 + 1 < w1.heap.size) ∧ ng ≤ w1.heap.size) := by
    have hb1 := Rc.via HA.out.2.2.2.2.1 HB1.out
    have ha1 : Below w1.heap.size w1 (w1.alloc (.cells #[.int .i64 M.x0, .int .i64 M.y0, .int .i64 M.x1, .int .i64 M.y1, .slice no nn nm] 26)) := (Below.refl _ _).alloc (Nat.le_refl _) _
    have hk := HA.out.2.2.2.2.2
    have hlo := HL.out.1
    have hgn := HL.out.2.1
    refine ⟨(HA.out.1.below HB1.out).alloc _, (HA.out.2.2.1.below HB1.out).alloc _, (HA.out.2.2.2.1.below HB1.out).alloc _, Has5.new rfl _ _ _ _ _ _ _ _, (HO1.out.below ha1).mono HA.out.2.2.2.2.1.size, HH.out.2.2.1.below (Rc.via hb1 ha1), Rc.via hb1 ha1, Nat.le_trans HA.out.2.2.2.2.1.size hlo, ⟨⟨?_, ?_, ?_⟩, fun hn0 => ?_, fun hm => ?_⟩, ⟨by omega, by omega⟩, HL.out.2.2.2⟩
    · omega
    · omega
    · omega
    · have := vx_lt HH.out.2.2.1 hn0; omega
    · have := hgn hm; omega
  clear HA HO1 HB1
  generalize w1.alloc (.cells #[.int .i64 M.x0, .int .i64 M.y0, .int .i64 M.x1, .int .i64 M.y1, .slice no nn nm] 26) = W1 at HS1 ⊢
  generalize w1.heap.size = k7 at HS1 hz1 HL ⊢
  obtain ⟨q0, q1, q2, q3, qf⟩ := HS1.out.2.1
  have hS : S4c (w.heap.size + 1 + 1) T.x0 T.y0 T.x1 T.y1 W1 := ⟨q0, q1, q2, q3⟩
  go_region_held3 (fun w' => w'.cell? ⟨w.heap.size + 1 + 1, 0, none⟩ = some (.int .i64 T.x0) ∧ w'.cell? ⟨w.heap.size + 1 + 1, 1, none⟩ = some (.int .i64 T.y0) ∧ w'.cell? ⟨w.heap.size + 1 + 1, 2, none⟩ = some (.int .i64 T.x1) ∧ w'.cell? ⟨w.heap.size + 1 + 1, 3, none⟩ = some (.int .i64 T.y1)) (repeat (first | with_reducible assumption | with_reducible refine s4c_drew ?_ | with_reducible refine s4c_below ?_ ‹_›))
    ((first
    | (go_at_call 37; with_reducible refine Calls.mono (Rc.empty_any T.x0 T.y0 T.x1 T.y1 _) ?_; rintro e w2 ⟨rfl, hb2⟩; rw [HE.out.1]; have HB2 := hid (Rc.via (Below.refl _ _).drew hb2))
    | (go_at_call 39; with_reducible refine Calls.mono (half_any _) ?_; rintro e w3 ⟨rfl, hb3⟩; have HB3 := hid (Rc.via HB2.out hb3))
    | (go_at_call 38; with_reducible refine Calls.mono (withinH_any T.x0 T.y0 T.x1 T.y1 _ HE.out.1) ?_; rintro e w4 ⟨rfl, hb4⟩; rw [HE.out.2]; have HB4 := hid (Rc.via HB3.out hb4))))
  have HS2 : Hid (Has5 w4 w.heap.size B ao n m ∧ Rc.Has4 w4 (w.heap.size + 1 + 1) (.int .i64 T.x0) (.int .i64 T.y0) (.int .i64 T.x1) (.int .i64 T.y1) ∧ Has5 w4 (w.heap.size + 1 + 1 + 1) ⟨0, 0, 0, 0⟩ none 0 0 ∧ Has5 w4 k7 M no nn nm ∧ Ox w.heap.size w4 no nn nm ng noff (img M fun _ _ => noX) ∧ Vx w4 ao n m g off (img B f) ∧ Below w.heap.size w w4) := ⟨HS1.out.1.below HB4.out, HS1.out.2.1.below HB4.out, HS1.out.2.2.1.below HB4.out, HS1.out.2.2.2.1.below HB4.out, HS1.out.2.2.2.2.1.below HB4.out, HS1.out.2.2.2.2.2.1.below HB4.out, Rc.via HS1.out.2.2.2.2.2.2.1 HB4.out⟩
  have HZ1 : Hid (W1.heap.size ≤ w4.heap.size ∧ k7 < W1.heap.size) := ⟨HB4.out.size, HS1.out.2.2.2.1.lt⟩
  have HNE := hid HS1.out.2.2.2.2.2.2.2
  clear HB2 HB3 HB4 HS1 q0 q1 q2 q3 qf hS
  obtain ⟨q0, q1, q2, q3, qf⟩ := HS2.out.2.1
  obtain ⟨Fi, hFi⟩ : ∃ Fi, Fi = firstR M T := ⟨_, rfl⟩
  have HFI := hid hFi
  have f0 : M.x0 = Fi.x0 := by rw [hFi]; rfl
  have f1 : M.y0 = Fi.y0 := by rw [hFi]; rfl
  have f2 : mn M.x1 (M.x0 + (T.x1 - T.x0)) = Fi.x1 := by rw [hFi]; rfl
  have f3 : mn M.y1 (M.y0 + (T.y1 - T.y0)) = Fi.y1 := by rw [hFi]; rfl
  have hfb : (-33554432 ≤ Fi.x0 ∧ Fi.x0 ≤ 33554432) ∧ (-33554432 ≤ Fi.y0 ∧ Fi.y0 ≤ 33554432) ∧ (-33554432 ≤ Fi.x1 ∧ Fi.x1 ≤ 33554432) ∧ (-33554432 ≤ Fi.y1 ∧ Fi.y1 ≤ 33554432) := by
    rw [← f0, ← f1, ← f2, ← f3]
    unfold mn
    omega
  obtain ⟨⟨b0, b1⟩, ⟨b2, b3⟩, ⟨b4, b5⟩, b6, b7⟩ := hfb
  have HF4 := hid (And.intro f0 (And.intro f1 (And.intro f2 f3)))
  clear hFi f0 f1
  go_wp2
  go_quiet (fail)
  have hd := below_drewN (Below.refl w4.heap.size w4) nq
  replace HS2 := hid (And.intro (HS2.out.1.below hd) (And.intro (HS2.out.2.1.below hd) (And.intro (HS2.out.2.2.1.below hd) (And.intro (HS2.out.2.2.2.1.below hd) (And.intro (HS2.out.2.2.2.2.1.below hd) (And.intro (HS2.out.2.2.2.2.2.1.below hd) (Rc.via HS2.out.2.2.2.2.2.2 hd)))))))
  replace HZ1 : Hid (W1.heap.size ≤ (w4.drewN nq).heap.size ∧ k7 < W1.heap.size) := HZ1.out
  clear hd q0 q1 q2 q3 qf hb4
  generalize w4.drewN nq = w5 at HS2 HZ1 ⊢
  obtain ⟨q0, q1, q2, q3, qf⟩ := HS2.out.2.1
  obtain ⟨h0, h1, h2, h3, h4, hf⟩ := HS2.out.2.2.2.1
  have HSZ : Hid ((0 < T.x1 - T.x0 ∧ T.x1 - T.x0 ≤ 1099511627776) ∧ (0 < T.y1 - T.y0 ∧ T.y1 - T.y0 ≤ 1099511627776)) := by show (_ ∧ _) ∧ (_ ∧ _); omega
  have HAY : Hid ((-268435456 ≤ M.y0 ∧ M.y0 ≤ 268435456) ∧ (-268435456 ≤ T.y0 ∧ T.y0 ≤ 268435456) ∧ (-268435456 ≤ M.x0 ∧ M.x0 ≤ 268435456) ∧ (-268435456 ≤ T.x0 ∧ T.x0 ≤ 268435456)) := by show (_ ∧ _) ∧ (_ ∧ _) ∧ (_ ∧ _) ∧ (_ ∧ _); omega
  obtain ⟨dy0, hdy0⟩ : ∃ d, d = awayI M.y0 T.y0 (T.y1 - T.y0) := ⟨_, rfl⟩
  have HDY := hid hdy0.symm
  clear hdy0
  have hl5 : w.heap.size + 1 + 1 < w5.heap.size := HS2.out.2.1.lt
  have hl7 : k7 < w5.heap.size := HS2.out.2.2.2.1.lt
  go_wp2_with (go_at_call 40; with_reducible refine Calls.mono (away_any M.y0 T.y0 (T.y1 - T.y0) _ HSZ.out.2 HAY.out.1 HAY.out.2.1) ?_; rintro e w6 ⟨rfl, hw6⟩; replace hw6 := hw6.symm; subst hw6; rw [HDY.out])
  have HTS : Hid (Ts w w.heap.size (w.heap.size + 1 + 1) (w.heap.size + 1 + 1 + 1) k7 w5.heap.size B T M Fi ao n m g off no nn nm ng noff f (stO Fi T (atX B f) (T.y0 + dy0)) (w5.alloc (.cells #[.int .i64 M.x0, .int .i64 M.y0, .int .i64 Fi.x1, .int .i64 Fi.y1] 23))) := by
    have hal : Below w5.heap.size w5 (w5.alloc (.cells #[.int .i64 M.x0, .int .i64 M.y0, .int .i64 Fi.x1, .int .i64 Fi.y1] 23)) := (Below.refl _ _).alloc (Nat.le_refl _) _
    have hfi : Rc.Has4 (w5.alloc (.cells #[.int .i64 M.x0, .int .i64 M.y0, .int .i64 Fi.x1, .int .i64 Fi.y1] 23)) w5.heap.size (.int .i64 Fi.x0) (.int .i64 Fi.y0) (.int .i64 Fi.x1) (.int .i64 Fi.y1) := by
      have := Rc.Has4.new (W := w5) (k := w5.heap.size) rfl (.int .i64 M.x0) (.int .i64 M.y0) (.int .i64 Fi.x1) (.int .i64 Fi.y1) 23
      rw [HF4.out.1, HF4.out.2.1] at this ⊢
      exact this
    have hst : stO Fi T (atX B f) (T.y0 + dy0) = fun _ _ => noX := st_first (by rw [← HF4.out.2.1, ← HDY.out]; exact (away_bd HSZ.out.2.1).1)
    rw [hst]
    refine ⟨HS2.out.1.below hal, HS2.out.2.1.below hal, HS2.out.2.2.1.below hal, HS2.out.2.2.2.1.below hal, hfi, HS2.out.2.2.2.2.1.below hal, HS2.out.2.2.2.2.2.1.below hal, Rc.via HS2.out.2.2.2.2.2.2 hal, HNE.out.1, ⟨⟨HNE.out.2.1.1.1, HNE.out.2.1.1.2.1, HNE.out.2.1.1.2.2, ?_⟩, HNE.out.2.1.2.1, HNE.out.2.1.2.2⟩⟩
    have h1 := HNE.out.2.2.2
    have h2 := HZ1.out
    omega
  have HNN : Hid (nn ≤ 5000 ∧ bufB M nn = true ∧ nn = wid M * hei M) := by
    have h1 := HL.out.2.2.1
    rw [← h1]
    exact ⟨HU.out.2.1, HU.out.1, rfl⟩
  have HK : Hid (w.heap.size < k7 ∧ w.heap.size + 1 + 1 + 1 < k7 ∧ k7 < w5.heap.size) := ⟨HNE.out.2.2.1.1, HNE.out.2.2.1.2, hl7⟩
  have HD0 : Hid ((T.y1 - T.y0) ∣ dy0 ∧ -134217728 ≤ dy0 ∧ dy0 ≤ 134217728) := by
    have h1 := away_bd (n := M.y0) (a := T.y0) HSZ.out.2.1
    have h2 := away_dvd M.y0 T.y0 (T.y1 - T.y0)
    rw [HDY.out] at h1 h2
    exact ⟨h2, by omega, by omega⟩
  clear HS2 HZ1 HNE q0 q1 q2 q3 qf h0 h1 h2 h3 h4 hf hl5 hl7
  generalize w5.alloc (.cells #[.int .i64 M.x0, .int .i64 M.y0, .int .i64 Fi.x1, .int .i64 Fi.y1] 23) = w6 at HTS ⊢
  generalize w5.heap.size = k10 at HTS HK ⊢
  clear f2 f3
  go_loopg [11] (Fi.y1 - T.y0 - dy0).toNat (fun gh v11 wr => ∃ dy, (T.y1 - T.y0) ∣ dy ∧ -134217728 ≤ dy ∧ dy ≤ 134217728 ∧ gh = (Fi.y1 - T.y0 - dy).toNat ∧ v11 = .int .i64 dy ∧ Ts w w.heap.size (w.heap.size + 1 + 1) (w.heap.size + 1 + 1 + 1) k7 k10 B T M Fi ao n m g off no nn nm ng noff f (stO Fi T (atX B f) (T.y0 + dy)) wr)
  case atStart => exact ⟨dy0, HD0.out.1, HD0.out.2.1, HD0.out.2.2, rfl, rfl, HTS.out⟩
  case round =>
    clear HTS
    obtain ⟨dy, hdv, hd0, hd1, rfl, rfl, hTS⟩ := hrel
    have HDV := hid hdv
    have HX := hid hTS
    obtain ⟨q0, q1, q2, q3, qf⟩ := hTS.t
    obtain ⟨p0, p1, p2, p3, pf⟩ := hTS.i
    clear hTS hdv
    by_cases hlt : T.y0 + dy < Fi.y1
    · obtain ⟨dx0, hdx0⟩ : ∃ d, d = awayI Fi.x0 T.x0 (T.x1 - T.x0) := ⟨_, rfl⟩
      have HDX := hid hdx0.symm
      have HAX : Hid ((-268435456 ≤ Fi.x0 ∧ Fi.x0 ≤ 268435456) ∧ (-268435456 ≤ T.x0 ∧ T.x0 ≤ 268435456)) := by rw [← HF4.out.1]; exact HAY.out.2.2
      have hdy1 : dy + (T.y1 - T.y0) ≤ 134217728 := by omega
      clear hdx0
      go_wp2_with (go_at_call 40; with_reducible refine Calls.mono (away_any Fi.x0 T.x0 (T.x1 - T.x0) _ HSZ.out.1 HAX.out.1 HAX.out.2) ?_; rintro e w7 ⟨rfl, hw7⟩; replace hw7 := hw7.symm; subst hw7; rw [HDX.out])
      go_loopg [12] (Fi.x1 - T.x0 - dx0).toNat (fun gh v12 wr => ∃ dx, (T.x1 - T.x0) ∣ dx ∧ -134217728 ≤ dx ∧ dx ≤ 134217728 ∧ gh = (Fi.x1 - T.x0 - dx).toNat ∧ v12 = .int .i64 dx ∧ Ts w w.heap.size (w.heap.size + 1 + 1) (w.heap.size + 1 + 1 + 1) k7 k10 B T M Fi ao n m g off no nn nm ng noff f (stG Fi T (atX B f) (T.x0 + dx) (T.y0 + dy) (T.y1 + dy)) wr)
      case atStart =>
        have h1 := away_bd (n := Fi.x0) (a := T.x0) HSZ.out.1.1
        have h2 := away_dvd Fi.x0 T.x0 (T.x1 - T.x0)
        have h3 := HF4.out.1
        rw [HDX.out] at h1 h2
        exact ⟨dx0, h2, by omega, by omega, rfl, rfl, by rw [st_row h1.1]; exact HX.out⟩
      case round =>
        clear HX q0 q1 q2 q3 qf p0 p1 p2 p3 pf
        obtain ⟨dx, hdvx, hdx0, hdx1, rfl, rfl, hTS⟩ := hrel
        have HDVX := hid hdvx
        have HX := hid hTS
        obtain ⟨q0, q1, q2, q3, qf⟩ := hTS.t
        obtain ⟨p0, p1, p2, p3, pf⟩ := hTS.i
        clear hTS hdvx
        by_cases hltx : T.x0 + dx < Fi.x1
        · have hdx2 : dx + (T.x1 - T.x0) ≤ 134217728 := by omega
          have HMV : Hid ((-4398046511104 ≤ dx ∧ dx ≤ 4398046511104) ∧ (-4398046511104 ≤ dy ∧ dy ≤ 4398046511104)) := by show (_ ∧ _) ∧ (_ ∧ _); omega
          obtain ⟨mv, hmv⟩ : ∃ r, r = moveR ⟨T.x0, T.y0, T.x1, T.y1⟩ dx dy := ⟨_, rfl⟩
          obtain ⟨mt, hmt⟩ : ∃ r, r = meet ⟨Fi.x0, Fi.y0, Fi.x1, Fi.y1⟩ ⟨mv.x0, mv.y0, mv.x1, mv.y1⟩ := ⟨_, rfl⟩
          have HMR := hid hmv.symm
          have HMT := hid hmt.symm
          have HST : Hid (copyG ⟨mt.x0, mt.y0, mt.x1, mt.y1⟩ (atX B f) dx dy (stG Fi T (atX B f) (T.x0 + dx) (T.y0 + dy) (T.y1 + dy)) = stG Fi T (atX B f) (T.x0 + (dx + (T.x1 - T.x0))) (T.y0 + dy) (T.y1 + dy)) := by
            have e : (⟨mt.x0, mt.y0, mt.x1, mt.y1⟩ : R) = meet Fi (moveR T dx dy) := by rw [← HMT.out, ← HMR.out]
            show copyG ⟨mt.x0, mt.y0, mt.x1, mt.y1⟩ (atX B f) dx dy _ = _
            rw [e, st_step HT.out.1.1.1 HT.out.1.1.2 HT.out.1.2.1 HT.out.1.2.2 HT.out.2.1 (by omega) (by omega) HDVX.out HDV.out]
            congr 1
            omega
          clear hmv hmt
          have hS : T13 w.heap.size k10 (w.heap.size + 1 + 1) B Fi T (.slice ao n m) wr := ⟨HX.out.s.c0, HX.out.s.c1, HX.out.s.c2, HX.out.s.c3, HX.out.s.c4, p0, p1, p2, p3, q0, q1, q2, q3⟩
          go_wp2
          clear p0 p1 p2 p3 pf q0 q1 q2 q3 qf
          go_region_held3 (fun w' => w'.cell? ⟨w.heap.size, 0, none⟩ = some (.int .i64 B.x0) ∧ w'.cell? ⟨w.heap.size, 1, none⟩ = some (.int .i64 B.y0) ∧ w'.cell? ⟨w.heap.size, 2, none⟩ = some (.int .i64 B.x1) ∧ w'.cell? ⟨w.heap.size, 3, none⟩ = some (.int .i64 B.y1) ∧ w'.cell? ⟨w.heap.size, 4, none⟩ = some (.slice ao n m) ∧ w'.cell? ⟨k10, 0, none⟩ = some (.int .i64 Fi.x0) ∧ w'.cell? ⟨k10, 1, none⟩ = some (.int .i64 Fi.y0) ∧ w'.cell? ⟨k10, 2, none⟩ = some (.int .i64 Fi.x1) ∧ w'.cell? ⟨k10, 3, none⟩ = some (.int .i64 Fi.y1) ∧ w'.cell? ⟨(w.heap.size + 1 + 1), 0, none⟩ = some (.int .i64 T.x0) ∧ w'.cell? ⟨(w.heap.size + 1 + 1), 1, none⟩ = some (.int .i64 T.y0) ∧ w'.cell? ⟨(w.heap.size + 1 + 1), 2, none⟩ = some (.int .i64 T.x1) ∧ w'.cell? ⟨(w.heap.size + 1 + 1), 3, none⟩ = some (.int .i64 T.y1)) (repeat (first | with_reducible assumption | with_reducible refine T13_drew ?_ | with_reducible refine T13_alloc ?_ | with_reducible refine T13_set5 ?_ (by omega) (by omega) (by omega) | with_reducible refine T13_set4 ?_ (by omega) (by omega) (by omega) | with_reducible refine T13_below ?_ ‹_›))
            ((first
            | (go_at_call 43; with_reducible refine Calls.mono (Rc.move_any T.x0 T.y0 T.x1 T.y1 dx dy _ HT.out.2.2 HMV.out.1 HMV.out.2) ?_; rintro e w2 ⟨rfl, hb2⟩; rw [HMR.out]; have HX2 := hid (HX.out.below (Rc.via (Below.refl _ _).drew hb2)))
            | (go_at_call 42; with_reducible refine Calls.mono (Rc.meet_any Fi.x0 Fi.y0 Fi.x1 Fi.y1 mv.x0 mv.y0 mv.x1 mv.y1 _) ?_; rintro e w3 ⟨rfl, hb3⟩; rw [HMT.out]; have HX3 := hid (HX2.out.below hb3))
            | (go_at_call 41; with_reducible refine Calls.mono (copy_any w.heap.size k7 ng noff nn nm no M _ B ao n m g off f mt.x0 mt.y0 mt.x1 mt.y1 dx dy _ HNN.out.1 HNN.out.2.1 HX3.out.h HX3.out.o HX3.out.ne.2.2 hn HH.out.2.2.2 HX3.out.v (fun _ => HX3.out.ne.2.1) HMV.out.1 HMV.out.2) ?_; rintro e w4 ⟨rfl, h7, hO, hbu⟩; rw [HST.out] at hO; have HX4 := hid (HX3.out.to hbu h7 hO rfl); clear h7 hO hbu; have hS4 : T13 w.heap.size k10 (w.heap.size + 1 + 1) B Fi T (.slice ao n m) w4 := ⟨HX4.out.s.c0, HX4.out.s.c1, HX4.out.s.c2, HX4.out.s.c3, HX4.out.s.c4, HX4.out.i.c0, HX4.out.i.c1, HX4.out.i.c2, HX4.out.i.c3, HX4.out.t.c0, HX4.out.t.c1, HX4.out.t.c2, HX4.out.t.c3⟩)))
          go_wp2
          go_roundg (Fi.x1 - T.x0 - (dx + (T.x1 - T.x0))).toNat
          case measure => omega
          case rel => exact ⟨dx + (T.x1 - T.x0), dvd_more HDVX.out, by omega, hdx2, rfl, rfl, HX4.out⟩
        · have hst : stG Fi T (atX B f) (T.x0 + dx) (T.y0 + dy) (T.y1 + dy) = stO Fi T (atX B f) (T.y0 + (dy + (T.y1 - T.y0))) := by
            rw [st_end (by omega) (by omega)]
            congr 1
            omega
          have HX2 := HX.out
          rw [hst] at HX2
          have HX3 := hid HX2
          clear hst HX2 HX
          go_wp2
          go_roundg (Fi.y1 - T.y0 - (dy + (T.y1 - T.y0))).toNat
          case measure => omega
          case rel => exact ⟨dy + (T.y1 - T.y0), dvd_more HDV.out, by omega, hdy1, rfl, rfl, HX3.out⟩
    · have hM01 : M.x0 ≤ M.x1 ∧ M.y0 ≤ M.y1 := by
        rcases HU.out.2.2.2 with e | e
        · rw [e]; unfold nil; decide
        · have := of_some e; omega
      have hF01 : Fi.y0 ≤ Fi.y1 := by
        have h1 := HF4.out.2.1
        have h2 := HF4.out.2.2.2
        unfold mn at h2
        omega
      have hst : stO Fi T (atX B f) (T.y0 + dy) = rowsT Fi T (atX B f) Fi.y0 := by
        rw [st_all (by omega), HFI.out]
        exact rows_start.symm
      have HX2 := HX.out
      rw [hst] at HX2
      have HX3 := hid HX2
      clear hst HX2 HX
      go_wp2
      go_loopg [13] (Fi.y1 - Fi.y0).toNat (fun gh v13 wr => ∃ y, Fi.y0 ≤ y ∧ y ≤ Fi.y1 ∧ gh = (Fi.y1 - y).toNat ∧ v13 = .int .i64 y ∧ Ts w w.heap.size (w.heap.size + 1 + 1) (w.heap.size + 1 + 1 + 1) k7 k10 B T M Fi ao n m g off no nn nm ng noff f (rowsT Fi T (atX B f) y) wr)
      case atStart => exact ⟨Fi.y0, Int.le_refl _, hF01, rfl, rfl, HX3.out⟩
      case round =>
        clear HX3 q0 q1 q2 q3 qf p0 p1 p2 p3 pf
        obtain ⟨y, hy0, hy1, rfl, rfl, hTS⟩ := hrel
        have HX := hid hTS
        obtain ⟨p0, p1, p2, p3, pf⟩ := hTS.i
        obtain ⟨r0, r1, r2, r3, r4, rf⟩ := hTS.h
        clear hTS
        by_cases hlty : y < Fi.y1
        · have eM : empB M = false := by
            rcases HU.out.2.2.2 with e | e
            · have h1 := HF4.out.2.1
              have h2 := HF4.out.2.2.2
              rw [e] at h1 h2
              unfold nil at h1 h2
              unfold mn at h2
              dsimp only at h1 h2
              omega
            · exact e
          obtain ⟨x01, y01⟩ := of_some eM
          obtain ⟨n0, hn0⟩ : ∃ k : Nat, (k : Int) = Fi.x1 - Fi.x0 := ⟨(Fi.x1 - Fi.x0).toNat, by have h1 := HF4.out.1; have h2 := HF4.out.2.2.1; unfold mn at h2; omega⟩
          have hn0b : 0 < n0 ∧ n0 ≤ (M.x1 - M.x0).toNat := by have h1 := HF4.out.1; have h2 := HF4.out.2.2.1; unfold mn at h2; omega
          have en0 : IntKind.i64.wrap (Fi.x1 - Fi.x0) = (n0 : Int) := by rw [IntKind.wrap_i64]; omega
          have hyM : M.y0 ≤ y ∧ y < M.y1 := by have h1 := HF4.out.2.1; have h2 := HF4.out.2.2.2; unfold mn at h2; omega
          have HRW : Hid (∀ L', Rep (img M (rowsT Fi T (atX B f) y)) L' (posN M M.x0 y) (M.x1 - M.x0).toNat n0 → L' = img M (rowsT Fi T (atX B f) (y + 1))) := by
            intro L' hR
            have hx := HF4.out.1
            rw [rep_row hyM hn0b.1 hn0b.2 hR, HFI.out, ← rows_step eM HT.out.2.1 ⟨hyM.1, by rw [← HFI.out]; exact hlty⟩, hn0, ← hx, HFI.out]
          have hI : In M M.x0 M.x1 y := ⟨hyM.1, hyM.2, Int.le_refl _, by omega, Int.le_refl _⟩
          have hpe := pos_end hyM (Int.le_refl M.x0) (by omega : M.x0 ≤ M.x1) (Int.le_refl _)
          have hnnm := HX.out.o.v.le
          have hnmx := HX.out.o.v.max
          have hnw := HNN.out.2.2
          rw [← hnw] at hpe
          have hm0 : 0 < nm := by omega
          have HI := hid (And.intro hI (And.intro x01 (And.intro hnnm (And.intro hnmx (And.intro hnw hm0)))))
          have HR1 := hid (And.intro hpe (And.intro hn0b (show (M.x1 - M.x0).toNat ≤ nm - posN M M.x0 y ∧ nm - posN M M.x0 y ≤ maxLen by omega)))
          obtain rfl := HX.out.o.v.addr hm0
          have hS : T9 k7 k10 M Fi (.slice (some ⟨ng, noff, none⟩) nn nm) wr := ⟨r0, r1, r2, r3, r4, p0, p1, p2, p3⟩
          clear hI hpe hnnm hnmx hnw hn0
          go_wp2
          clear p0 p1 p2 p3 pf r0 r1 r2 r3 r4 rf
          go_region_held3 (fun w' => w'.cell? ⟨k7, 0, none⟩ = some (.int .i64 M.x0) ∧ w'.cell? ⟨k7, 1, none⟩ = some (.int .i64 M.y0) ∧ w'.cell? ⟨k7, 2, none⟩ = some (.int .i64 M.x1) ∧ w'.cell? ⟨k7, 3, none⟩ = some (.int .i64 M.y1) ∧ w'.cell? ⟨k7, 4, none⟩ = some (.slice (some ⟨ng, noff, none⟩) nn nm) ∧ w'.cell? ⟨k10, 0, none⟩ = some (.int .i64 Fi.x0) ∧ w'.cell? ⟨k10, 1, none⟩ = some (.int .i64 Fi.y0) ∧ w'.cell? ⟨k10, 2, none⟩ = some (.int .i64 Fi.x1) ∧ w'.cell? ⟨k10, 3, none⟩ = some (.int .i64 Fi.y1)) (repeat (first | with_reducible assumption | with_reducible refine T9_drew ?_ | with_reducible refine T9_alloc ?_ | with_reducible refine T9_set5 ?_ (by omega) (by omega) | with_reducible refine T9_set4 ?_ (by omega) (by omega) | with_reducible refine T9_below ?_ ‹_›))
            ((first
            | (go_at_call 45; with_reducible refine Calls.mono (mrow_of M ng noff nn nm M.x0 M.x1 y _ HU.out.2.2.1 HI.out.2.2.2.2.1 HNN.out.1 HI.out.2.2.1 HI.out.2.2.2.1 HI.out.1 HI.out.2.1) ?_; rintro e w2 ⟨rfl, hb2⟩; have HX2 := hid (HX.out.below (Rc.via (Below.refl _ _).drew hb2)))
            | (go_at_call 44; with_reducible refine Calls.mono (repeat_any w.heap.size ng noff nn nm _ (posN M M.x0 y) (M.x1 - M.x0).toNat (nm - posN M M.x0 y) n0 _ HX2.out.o HR1.out.1 HR1.out.2.2.1 HR1.out.2.2.2 HR1.out.2.1.1 HR1.out.2.1.2 HNN.out.1) ?_; rintro e w3 ⟨rfl, L', hRep, hO, hbu⟩; have HX3 := hid (HX2.out.to hbu (HX2.out.h.but hbu (HX2.out.ne.2.2 HI.out.2.2.2.2.2)) hO (HRW.out L' hRep)); clear hRep hO hbu; have hS3 : T9 k7 k10 M Fi (.slice (some ⟨ng, noff, none⟩) nn nm) w3 := ⟨HX3.out.h.c0, HX3.out.h.c1, HX3.out.h.c2, HX3.out.h.c3, HX3.out.h.c4, HX3.out.i.c0, HX3.out.i.c1, HX3.out.i.c2, HX3.out.i.c3⟩)))
          go_wp2
          go_roundg (Fi.y1 - (y + 1)).toNat
          case measure => omega
          case rel => exact ⟨y + 1, by omega, by omega, rfl, rfl, HX3.out⟩
        · obtain rfl : y = Fi.y1 := by omega
          obtain ⟨h0, hh0⟩ : ∃ k : Nat, (k : Int) = Fi.y1 - Fi.y0 := ⟨(Fi.y1 - Fi.y0).toNat, by omega⟩
          have hmul : (Fi.y1 - Fi.y0) * (M.x1 - M.x0) = ((h0 * wid M : Nat) : Int) := by
            rw [← hh0, Int.natCast_mul]
            congr 1
            unfold wid
            omega
          have hh1 : h0 ≤ hei M := by have h1 := HF4.out.2.1; have h2 := HF4.out.2.2.2; unfold mn at h2; unfold hei; omega
          have hk5 : h0 * wid M ≤ 5000 := by
            have := Nat.mul_le_mul_right (wid M) hh1
            have h2 := HU.out.2.1
            rw [Nat.mul_comm (wid M)] at h2
            omega
          obtain ⟨k0, hk0⟩ : ∃ k, k = h0 * wid M := ⟨_, rfl⟩
          rw [← hk0] at hmul hk5
          have HK0 := hid (And.intro hk0 (And.intro hh0 hh1))
          have hk5i : (k0 : Int) ≤ 5000 := by omega
          clear hk0 hh0 hh1
          have hM0 := HU.out.2.2.2
          rcases eM : empB M with _ | _
          · obtain ⟨x01, y01⟩ := of_some eM
            have hF1 : M.y0 < Fi.y1 := by have h1 := HF4.out.2.1; have h2 := HF4.out.2.2.2; unfold mn at h2; omega
            have hwpos : 0 < wid M := by unfold wid; omega
            have hk1 : 0 < k0 ∧ k0 ≤ nn := by
              have h1 := HK0.out.2.1
              have h2 := HF4.out.2.1
              have h3 : 0 < h0 := by omega
              rw [HK0.out.1, HNN.out.2.2]
              exact ⟨Nat.mul_pos h3 hwpos, by rw [Nat.mul_comm (wid M)]; exact Nat.mul_le_mul_right _ HK0.out.2.2⟩
            have hnnm := HX.out.o.v.le
            have hm0 : 0 < nm := by omega
            have HRA : Hid (∀ L', Rep (img M (rowsT Fi T (atX B f) Fi.y1)) L' 0 nn k0 → L' = img M (tileG T (atX B f))) := by
              intro L' hR
              have h1 := HK0.out.2.1
              have h2 := HF4.out.2.1
              rw [HNN.out.2.2, HK0.out.1] at hR
              rw [rep_all (by omega) HK0.out.2.2 hR, h1, ← h2, HFI.out, rows_end eM HT.out.2.1]
            have HI := hid (And.intro hk1 (And.intro HX.out.o.v.max (And.intro hnnm hm0)))
            obtain rfl := HX.out.o.v.addr hm0
            clear hk1 hnnm
            go_wp2_with (go_at_call 44; with_reducible refine Calls.mono (repeat_all w.heap.size ng noff nn nm _ nm k0 _ HX.out.o HI.out.2.2.1 HI.out.2.1 HI.out.1.1 HI.out.1.2 HNN.out.1) ?_; rintro e w2 ⟨rfl, L', hRep, hO, hbu⟩; have HX3 := hid (HX.out.to hbu (HX.out.h.but hbu (HX.out.ne.2.2 HI.out.2.2.2)) hO (HRA.out L' hRep)); clear hRep hO hbu p0 p1 p2 p3 pf r0 r1 r2 r3 r4 rf; obtain ⟨r0, r1, r2, r3, r4, rf⟩ := HX3.out.h; obtain ⟨z0, z1, z2, z3, z4, zf⟩ := HX3.out.z)
            obtain ⟨s0, s1, s2, s3, s4⟩ := set5 z0 z1 z2 z3 z4 (.int .i64 M.x0) (.int .i64 M.y0) (.int .i64 M.x1) (.int .i64 M.y1) (.slice (some ⟨ng, noff, none⟩) nn nm)
            refine bodyPost_ret (v := .agg #[.int .i64 M.x0, .int .i64 M.y0, .int .i64 M.x1, .int .i64 M.y1, .slice (some ⟨ng, noff, none⟩) nn nm]) (by simp [results, Try.results18, go_sem, s0, s1, s2, s3, s4]) rfl ⟨⟨_, _, _, ng, noff, rfl, ?_⟩, ?_⟩
            · exact HX3.out.o.but (but_set5 _ _ _ _ _ _ _) (fun _ => Ne.symm HX3.out.ne.1.2.2.1)
            · exact below_set5 HX3.out.low (by omega) _ _ _ _ _
          · have hMn : M = nil := by
              rcases hM0 with e | e
              · exact e
              · rw [e] at eM; cases eM
            have hn00 : nn = 0 := by rw [HNN.out.2.2, hMn]; rfl
            have HIM : Hid (∀ F : Int → Int → X, img M F = img M (tileG T (atX B f))) := by intro F; rw [hMn]; rfl
            clear hM0 hMn
            subst hn00
            go_wp2_with (go_at_call 44; with_reducible refine Calls.mono (repeat_none no nm k0 _ hk5) ?_; rintro e w2 ⟨rfl, hw2⟩; replace hw2 := hw2.symm; subst hw2; clear p0 p1 p2 p3 pf; obtain ⟨z0, z1, z2, z3, z4, zf⟩ := HX.out.z)
            obtain ⟨s0, s1, s2, s3, s4⟩ := set5 z0 z1 z2 z3 z4 (.int .i64 M.x0) (.int .i64 M.y0) (.int .i64 M.x1) (.int .i64 M.y1) (.slice no 0 nm)
            refine bodyPost_ret (v := .agg #[.int .i64 M.x0, .int .i64 M.y0, .int .i64 M.x1, .int .i64 M.y1, .slice no 0 nm]) (by simp [results, Try.results18, go_sem, s0, s1, s2, s3, s4]) rfl ⟨⟨_, _, _, ng, noff, rfl, ?_⟩, ?_⟩
            · have h1 := HX.out.o
              rw [HIM.out] at h1
              exact h1.but (but_set5 _ _ _ _ _ _ _) (fun _ => Ne.symm HX.out.ne.1.2.2.1)
            · exact below_set5 HX.out.low (by omega) _ _ _ _ _
end Go.Proofs.Ytfgfgfmimejpdaa
/- Whether two buffers are the same: the contract. -/
namespace Go.Proofs.Ytfgfgfmimejpdaa
open Num Go.RowKit
set_option linter.unusedVariables false
set_option linter.unusedSimpArgs false
attribute [local go_sem ↓] eqR

/-- two pixels that are the same are equal -/
theorem eqPx (r g b a : Int) (w : World) : (Op.equalIn 10000 28 (.agg #[.int .u8 r, .int .u8 g, .int .u8 b, .int .u8 a]) (.agg #[.int .u8 r, .int .u8 g, .int .u8 b, .int .u8 a])).run Try.prog w = .ok true w := by
  have u3 := Try.underlying5
  have a3 := Try.isAgg5
  have z3 := Try.sizeOf5
  rw [show (10000 : Nat) = 9999 + 1 from rfl, Op.equalIn]
  simp only [Sem.run_bind, run_underlying Try.underlying28, Result.andThen_ok]
  simp only [Std.Legacy.Range.forIn_eq_forIn_range', Std.Legacy.Range.size, Nat.sub_zero, Nat.add_sub_cancel, Nat.div_one, List.range'_succ, List.range'_zero, List.forIn_cons, List.forIn_nil]
  go_simp
attribute [local go_sem ↓] eqPx
attribute [local go_sem] eq4_same

set_option maxRecDepth 100000 in
set_option maxHeartbeats 1000000 in
theorem same_yes (B : R) (ao : Option Addr) (n c b off : Nat) (ao' : Option Addr) (c' b' off' : Nat) (l : List X) (w : World) (h : Vx w ao n c b off l) (h' : Vx w ao' n c' b' off' l) :
    Calls Try.prog 17 #[.agg #[.int .i64 B.x0, .int .i64 B.y0, .int .i64 B.x1, .int .i64 B.y1, .slice ao n c], .agg #[.int .i64 B.x0, .int .i64 B.y0, .int .i64 B.x1, .int .i64 B.y1, .slice ao' n c']] w fun e w' => e = .returned (.bool true) ∧ Below w.heap.size w w' := by
  have hn := vx_small h
  have HV := hid (And.intro h h')
  have hl := hid (vx_len h)
  clear h h'
  have hA : Has5 ((w.alloc (.cells #[.int .i64 B.x0, .int .i64 B.y0, .int .i64 B.x1, .int .i64 B.y1, .slice ao n c] 26)).alloc (.cells #[.int .i64 B.x0, .int .i64 B.y0, .int .i64 B.x1, .int .i64 B.y1, .slice ao' n c'] 26)) w.heap.size B ao n c := (Has5.new rfl _ _ _ _ _ _ _ _).alloc _
  have hC : Has5 ((w.alloc (.cells #[.int .i64 B.x0, .int .i64 B.y0, .int .i64 B.x1, .int .i64 B.y1, .slice ao n c] 26)).alloc (.cells #[.int .i64 B.x0, .int .i64 B.y0, .int .i64 B.x1, .int .i64 B.y1, .slice ao' n c'] 26)) (w.heap.size + 1) B ao' n c' := Has5.new (by simp) _ _ _ _ _ _ _ _
  have hB : Below w.heap.size w ((w.alloc (.cells #[.int .i64 B.x0, .int .i64 B.y0, .int .i64 B.x1, .int .i64 B.y1, .slice ao n c] 26)).alloc (.cells #[.int .i64 B.x0, .int .i64 B.y0, .int .i64 B.x1, .int .i64 B.y1, .slice ao' n c'] 26)) := ((Below.refl _ _).alloc (Nat.le_refl _) _).alloc (by simp) _
  have HS := hid (And.intro hA (And.intro hC hB))
  clear hA hC hB
  go_enter Try.func17, Try.ntmps17
  go_wp2
  go_loopg [5] n (fun g i wr => ∃ k : Nat, k ≤ n ∧ g = n - k ∧ i = .int .i64 k ∧ Has5 wr w.heap.size B ao n c ∧ Has5 wr (w.heap.size + 1) B ao' n c' ∧ Below w.heap.size w wr)
  case atStart => exact ⟨0, Nat.zero_le _, rfl, rfl, HS.out.1, HS.out.2.1, HS.out.2.2⟩
  case round =>
    clear HS
    obtain ⟨k, hk, rfl, rfl, hA, hC, hB⟩ := hrel
    have HS := hid (And.intro hA (And.intro hC hB))
    obtain ⟨-, -, -, -, a4, -⟩ := hA
    obtain ⟨-, -, -, -, e4, -⟩ := hC
    by_cases hlt : k < n
    · have hlz : (k : Int) < (n : Int) := by omega
      obtain ⟨r, hr⟩ : ∃ s, l[k]? = some s := ⟨_, List.getElem?_eq_getElem (by rw [hl.out]; exact hlt)⟩
      obtain ⟨rfl, h0, h1, h2, h3⟩ := vx_at (HV.out.1.below hB) hr
      obtain ⟨rfl, g0, g1, g2, g3⟩ := vx_at (HV.out.2.below hB) hr
      clear hr hB
      go_wp2
      go_quiet (fail)
      go_wp2
      go_roundg (n - (k + 1))
      case measure => omega
      case rel => exact ⟨k + 1, hlt, rfl, by simp, HS.out.1.below (below_drewN (Below.refl _ _) _), HS.out.2.1.below (below_drewN (Below.refl _ _) _), below_drewN HS.out.2.2 _⟩
    · obtain rfl : n = k := by omega
      go_wp2
      go_ret
      exact ⟨rfl, hB⟩
end Go.Proofs.Ytfgfgfmimejpdaa
/- The law's own answers that the document fixes: the contract. -/
namespace Go.Proofs.Ytfgfgfmimejpdaa
open Num Go.RowKit
set_option linter.unusedVariables false
set_option linter.unusedSimpArgs false
attribute [local go_sem ↓] eqPx
def pA : X := ⟨1, 1, 1, 1⟩
def qA : X := ⟨2, 2, 2, 2⟩
def bA : R := ⟨0, 0, 2, 1⟩
theorem aw_tile (ao : Option Addr) (m g off : Nat) (w : World) (hV : Vx w ao 2 m g off [pA, qA]) :
    Calls Try.prog 18 #[.agg #[.int .i64 0, .int .i64 0, .int .i64 2, .int .i64 1, .slice ao 2 m], .agg #[.int .i64 (-1), .int .i64 0, .int .i64 3, .int .i64 1], .agg #[.int .i64 0, .int .i64 0, .int .i64 2, .int .i64 1]] w fun e w' => RetB w.heap.size w' e ⟨-1, 0, 3, 1⟩ [⟨2, 2, 2, 2⟩, ⟨1, 1, 1, 1⟩, ⟨2, 2, 2, 2⟩, ⟨1, 1, 1, 1⟩] ∧ Below w.heap.size w w' := by
  have h := tile_any bA ao 2 m g off (unimg bA [pA, qA]) ⟨-1, 0, 3, 1⟩ bA w (by omega) (by decide) (by rw [show img bA (unimg bA [pA, qA]) = [pA, qA] by decide]; exact hV) (by decide) (by decide) (by decide) (by decide)
  rw [show orN ⟨-1, 0, 3, 1⟩ = ⟨-1, 0, 3, 1⟩ by decide, show img ⟨-1, 0, 3, 1⟩ (tileG bA (atX bA (unimg bA [pA, qA]))) = [⟨2, 2, 2, 2⟩, ⟨1, 1, 1, 1⟩, ⟨2, 2, 2, 2⟩, ⟨1, 1, 1, 1⟩] by decide] at h
  exact h
theorem aw_off (ao : Option Addr) (m g off : Nat) (w : World) (hV : Vx w ao 2 m g off [pA, qA]) :
    Calls Try.prog 20 #[.agg #[.int .i64 0, .int .i64 0, .int .i64 2, .int .i64 1, .slice ao 2 m], .agg #[.int .i64 0, .int .i64 0, .int .i64 2, .int .i64 1], .int .i64 1, .int .i64 0] w fun e w' => RetB w.heap.size w' e ⟨0, 0, 2, 1⟩ [⟨0, 0, 0, 0⟩, ⟨1, 1, 1, 1⟩] ∧ Below w.heap.size w w' := by
  have h := offset_any bA ao 2 m g off (unimg bA [pA, qA]) bA 1 0 w (by omega) (by decide) (by rw [show img bA (unimg bA [pA, qA]) = [pA, qA] by decide]; exact hV) (by unfold Ok bA; decide) (by decide) (by decide) (by decide)
  rw [show orN bA = ⟨0, 0, 2, 1⟩ by decide, show img ⟨0, 0, 2, 1⟩ (fun x y => atX bA (unimg bA [pA, qA]) (x - 1) (y - 0)) = [⟨0, 0, 0, 0⟩, ⟨1, 1, 1, 1⟩] by decide] at h
  exact h
theorem len2 {p q : X} {n : Nat} (h : [p, q].length = n) : n = 2 := by simpa using h.symm
theorem len4 {p q r s : X} {n : Nat} (h : [p, q, r, s].length = n) : n = 4 := by simpa using h.symm
structure Aw (w W : World) (k : Nat) (wr : World) : Prop where
  p : Rc.Has4 wr k (.int .u8 1) (.int .u8 1) (.int .u8 1) (.int .u8 1)
  q : Rc.Has4 wr (k + 1) (.int .u8 2) (.int .u8 2) (.int .u8 2) (.int .u8 2)
  b : Has5 wr (k + 1 + 1 + 1) ⟨0, 0, 2, 1⟩ (some ⟨k + 1 + 1, 0, none⟩) 2 2
  v : Vx wr (some ⟨k + 1 + 1, 0, none⟩) 2 2 (k + 1 + 1) 0 [pA, qA]
  low : Below w.heap.size w wr
theorem Aw.below {w W : World} {k : Nat} {wr wr' : World} (h : Aw w W k wr) (hb : Below wr.heap.size wr wr') : Aw w W k wr' := ⟨h.p.below hb, h.q.below hb, h.b.below hb, h.v.below hb, Rc.via h.low hb⟩

set_option maxRecDepth 100000 in
set_option maxHeartbeats 4000000 in
theorem awake_any (w : World) : Calls Try.prog 9 #[] w fun e w' => e = .returned (.bool true) ∧ Below w.heap.size w w' := by
  have HA : Hid (Aw w w w.heap.size (((((w.alloc (.cells #[.int .u8 1, .int .u8 1, .int .u8 1, .int .u8 1] 28)).alloc (.cells #[.int .u8 2, .int .u8 2, .int .u8 2, .int .u8 2] 28)).alloc (.cells #[.int .u8 1, .int .u8 1, .int .u8 1, .int .u8 1, .int .u8 2, .int .u8 2, .int .u8 2, .int .u8 2] 28)).alloc (.cells #[.int .i64 0, .int .i64 0, .int .i64 2, .int .i64 1, .slice (some ⟨w.heap.size + 1 + 1, 0, none⟩) 2 2] 26)))) := by
    have hsz : ((w.alloc (.cells #[.int .u8 1, .int .u8 1, .int .u8 1, .int .u8 1] 28)).alloc (.cells #[.int .u8 2, .int .u8 2, .int .u8 2, .int .u8 2] 28)).heap.size = w.heap.size + 1 + 1 := by simp
    have hv := ox_news (w := (w.alloc (.cells #[.int .u8 1, .int .u8 1, .int .u8 1, .int .u8 1] 28)).alloc (.cells #[.int .u8 2, .int .u8 2, .int .u8 2, .int .u8 2] 28)) (lo := w.heap.size) (by simp; omega) [pA, qA] (by simp) 28
    rw [hsz] at hv
    exact ⟨(((Rc.Has4.new rfl _ _ _ _ _).alloc _).alloc _).alloc _, ((Rc.Has4.new (by simp) _ _ _ _ _).alloc _).alloc _, Has5.new (by simp) _ _ _ _ _ _ _ _, hv.v.below ((Below.refl _ _).alloc (Nat.le_refl _) _), ((((Below.refl _ _).alloc (Nat.le_refl _) _).alloc (by simp) _).alloc (by simp; omega) _).alloc (by simp; omega) _⟩
  go_enter Try.func9, Try.ntmps9
  go_wp2_with (first
    | (go_at_call 18; with_reducible refine Calls.mono (aw_tile _ 2 _ _ _ HA.out.v) ?_; rintro e w1 ⟨hr, hb1⟩; obtain ⟨ao, n1, m1, g1, off1, rfl, hO1⟩ := retB hr; have hn1 := len4 (vx_len hO1.v); subst hn1; have HA1 := hid ((HA.out.below hb1).below ((Below.refl _ _).alloc (Nat.le_refl _) (.cells #[.int .i64 (-1), .int .i64 0, .int .i64 3, .int .i64 1, .slice ao 4 m1] 26))); have H51 := hid (Has5.new (W := w1) (k := w1.heap.size) rfl (-1) 0 3 1 ao 4 m1 26); have HV1 := hid (hO1.v.below ((Below.refl _ _).alloc (Nat.le_refl _) (.cells #[.int .i64 (-1), .int .i64 0, .int .i64 3, .int .i64 1, .slice ao 4 m1] 26))); clear hr hO1 hb1; obtain ⟨b0, b1, b2, b3, b4, bf⟩ := HA1.out.b)
    | (go_at_call 20; with_reducible refine Calls.mono (aw_off _ 2 _ _ _ HA1.out.v) ?_; rintro e w2 ⟨hr, hb2⟩; obtain ⟨co, n2, m2, g2, off2, rfl, hO2⟩ := retB hr; have hn2 := len2 (vx_len hO2.v); subst hn2; have HA2 := hid ((HA1.out.below hb2).below ((Below.refl _ _).alloc (Nat.le_refl _) (.cells #[.int .i64 0, .int .i64 0, .int .i64 2, .int .i64 1, .slice co 2 m2] 26))); have H52 := hid ((H51.out.below hb2).alloc (.cells #[.int .i64 0, .int .i64 0, .int .i64 2, .int .i64 1, .slice co 2 m2] 26)); have HV2 := hid ((HV1.out.below hb2).below ((Below.refl _ _).alloc (Nat.le_refl _) (.cells #[.int .i64 0, .int .i64 0, .int .i64 2, .int .i64 1, .slice co 2 m2] 26))); have H62 := hid (Has5.new (W := w2) (k := w2.heap.size) rfl 0 0 2 1 co 2 m2 26); have HW2 := hid (hO2.v.below ((Below.refl _ _).alloc (Nat.le_refl _) (.cells #[.int .i64 0, .int .i64 0, .int .i64 2, .int .i64 1, .slice co 2 m2] 26))); clear hr hO2 hb2 b0 b1 b2 b3 b4 bf))
  generalize w2.alloc (.cells #[.int .i64 0, .int .i64 0, .int .i64 2, .int .i64 1, .slice co 2 m2] 26) = w3 at HA2 H52 HV2 H62 HW2 ⊢
  obtain ⟨-, -, -, -, b4, -⟩ := H52.out
  obtain ⟨-, -, -, -, f4, -⟩ := H62.out
  obtain ⟨t0, t1, t2, t3, -⟩ := HA2.out.p
  obtain ⟨s0, s1, s2, s3, -⟩ := HA2.out.q
  obtain ⟨rfl, p00, p01, p02, p03⟩ := vx_at0 HV2.out
  obtain ⟨-, p10, p11, p12, p13⟩ := vx_at HV2.out (i := 1) rfl
  obtain ⟨-, p30, p31, p32, p33⟩ := vx_at HV2.out (i := 3) rfl
  obtain ⟨rfl, r00, r01, r02, r03⟩ := vx_at0 HW2.out
  obtain ⟨-, r10, r11, r12, r13⟩ := vx_at HW2.out (i := 1) rfl
  go_quiet (fail)
  go_wp2
  go_ret
  exact ⟨rfl, below_drewN HA2.out.low _⟩
end Go.Proofs.Ytfgfgfmimejpdaa
/- The arithmetic of tones and of pixels that are mixed, value by value. -/
namespace Go.Proofs.Ytfgfgfmimejpdaa.Tn
set_option linter.unusedVariables false

/-- the product of two tones, of their product n as whole numbers -/
def rnd (n : Int) : Int := (n + 128 + (n + 128) / 256) / 256
/-- the product of two tones -/
def mulI (a b : Int) : Int := rnd (a * b)
/-- the quotient of two tones ahead of the cut at 255 -/
def quoI (c a : Int) : Int := (510 * c + a) / (2 * a)
/-- the quotient of two tones -/
def divI (c a : Int) : Int := if a = 0 then 0 else if 255 < quoI c a then 255 else quoI c a
/-- the nearest tone -/
def cutI (n : Int) : Int := if n < 0 then 0 else if 255 < n then 255 else n

theorem prod_bd {a b : Int} (ha : 0 ≤ a ∧ a ≤ 255) (hb : 0 ≤ b ∧ b ≤ 255) : 0 ≤ a * b ∧ a * b ≤ 65025 := by
  refine ⟨Int.mul_nonneg ha.1 hb.1, ?_⟩
  have h1 : a * b ≤ 255 * b := Int.mul_le_mul_of_nonneg_right ha.2 hb.1
  omega
theorem rnd_bd {n : Int} (h : 0 ≤ n ∧ n ≤ 65025) : 0 ≤ rnd n ∧ rnd n ≤ 255 := by unfold rnd; omega
theorem mul_bd {a b : Int} (ha : 0 ≤ a ∧ a ≤ 255) (hb : 0 ≤ b ∧ b ≤ 255) : 0 ≤ mulI a b ∧ mulI a b ≤ 255 := rnd_bd (prod_bd ha hb)
theorem rnd_near {n : Int} (h : 0 ≤ n ∧ n ≤ 65025) : 2 * (255 * rnd n - n) < 255 ∧ -255 < 2 * (255 * rnd n - n) := by unfold rnd; omega
theorem mul_comm (a b : Int) : mulI a b = mulI b a := by unfold mulI; rw [Int.mul_comm]
theorem mul_255 {a : Int} (ha : 0 ≤ a ∧ a ≤ 255) : mulI a 255 = a := by unfold mulI rnd; omega
theorem mul_0 (a : Int) : mulI a 0 = 0 := by unfold mulI rnd; simp
theorem rnd_mono {m n : Int} (h : m ≤ n) : rnd m ≤ rnd n := by unfold rnd; omega
theorem mul_mono {a b c : Int} (h : a ≤ b) (hc : 0 ≤ c) : mulI a c ≤ mulI b c := rnd_mono (Int.mul_le_mul_of_nonneg_right h hc)
theorem mul_le {a c : Int} (ha : 0 ≤ a ∧ a ≤ 255) (hc : 0 ≤ c ∧ c ≤ 255) : mulI a c ≤ a := by
  have h := mul_mono (a := c) (b := 255) (c := a) hc.2 ha.1
  rw [mul_comm c a, mul_comm 255 a, mul_255 ha] at h
  exact h
theorem mul_le' {a c : Int} (ha : 0 ≤ a ∧ a ≤ 255) (hc : 0 ≤ c ∧ c ≤ 255) : mulI a c ≤ c := by rw [mul_comm]; exact mul_le hc ha
/-- the document's product -/
theorem rnd_ref {n : Int} (h : 0 ≤ n ∧ n ≤ 65025) : rnd n = if 255 < 2 * (n - 255 * (n / 255)) then n / 255 + 1 else n / 255 := by
  unfold rnd; split <;> omega

theorem quo_bd {c a : Int} (hc : 0 ≤ c) (ha : 0 < a) : 0 ≤ quoI c a := Int.ediv_nonneg (by omega) (by omega)
theorem quo_mono {a b c : Int} (h : a ≤ b) (hc : 0 < c) : quoI a c ≤ quoI b c := Int.ediv_le_ediv (by omega) (by omega)
theorem div_bd {c a : Int} (hc : 0 ≤ c) (ha : 0 ≤ a) : 0 ≤ divI c a ∧ divI c a ≤ 255 := by
  unfold divI
  by_cases h : a = 0
  · simp [h]
  · have := quo_bd (c := c) (a := a) hc (by omega)
    rw [if_neg h]; split <;> omega
theorem div_mono {a b c : Int} (h : a ≤ b) (hc : 0 ≤ c) : divI a c ≤ divI b c := by
  unfold divI
  by_cases h0 : c = 0
  · simp [h0]
  · have := quo_mono (a := a) (b := b) (c := c) h (by omega)
    rw [if_neg h0, if_neg h0]; split <;> split <;> omega
/-- the document's quotient, ahead of the cut -/
theorem quo_ref {c a : Int} (ha : 0 < a) :
    quoI c a = if a ≤ 2 * (255 * c - a * (255 * c / a)) then 255 * c / a + 1 else 255 * c / a := by
  have e : 255 * c = a * (255 * c / a) + 255 * c % a := by have := Int.mul_ediv_add_emod (255 * c) a; omega
  have r0 : 0 ≤ 255 * c % a := Int.emod_nonneg _ (by omega)
  have r1 : 255 * c % a < a := Int.emod_lt_of_pos _ ha
  have er : 255 * c - a * (255 * c / a) = 255 * c % a := by omega
  rw [er]
  unfold quoI
  generalize 255 * c / a = q at *
  generalize 255 * c % a = r at *
  have e2 : 510 * c + a = (2 * r + a) + (2 * a) * q := by rw [Int.mul_assoc]; omega
  rw [e2, Int.add_mul_ediv_left _ _ (by omega)]
  split
  · have : (2 * r + a) / (2 * a) = 1 := by
      apply Int.le_antisymm
      · have := Int.ediv_lt_of_lt_mul (a := 2 * r + a) (b := 2) (c := 2 * a) (by omega) (by omega); omega
      · exact Int.le_ediv_of_mul_le (by omega) (by omega)
    omega
  · have : (2 * r + a) / (2 * a) = 0 := Int.ediv_eq_zero_of_lt (by omega) (by omega)
    omega
/-- a right pixel's colour, made plain and thick again, is itself -/
theorem back {c a : Int} (hc : 0 ≤ c) (h : c ≤ a) (ha : a ≤ 255) : mulI (divI c a) a = c := by
  by_cases h0 : a = 0
  · have : c = 0 := by omega
    subst h0 this; decide
  · have ha0 : 0 < a := by omega
    have e := Int.mul_ediv_add_emod (510 * c + a) (2 * a)
    have r0 : 0 ≤ (510 * c + a) % (2 * a) := Int.emod_nonneg _ (by omega)
    have r1 : (510 * c + a) % (2 * a) < 2 * a := Int.emod_lt_of_pos _ (by omega)
    have hq : ¬ 255 < quoI c a := by
      have := Int.ediv_lt_of_lt_mul (a := 510 * c + a) (b := 256) (c := 2 * a) (by omega) (by omega)
      unfold quoI; omega
    unfold divI
    rw [if_neg h0, if_neg hq]
    unfold quoI
    generalize (510 * c + a) / (2 * a) = q at *
    generalize (510 * c + a) % (2 * a) = r at *
    unfold mulI
    have e2 : 2 * a * q = 2 * (q * a) := by rw [Int.mul_assoc, Int.mul_comm a q]
    rw [e2] at e
    generalize q * a = x at *
    unfold rnd
    omega


/-- the share of the pixel on top that an operator takes, of the alphas A (on top) and B -/
def sA (op A B : Int) : Int := if op = 0 then 255 else if op = 1 then B else if op = 2 then 255 - B else if op = 3 then B else if op = 4 then 255 - B else 0
/-- the share of the pixel below -/
def sB (op A B : Int) : Int := if op = 0 then 255 - A else if op = 1 then 0 else if op = 2 then 0 else if op = 3 then 255 - A else if op = 4 then 255 - A else 0
/-- one value by an operator -/
def cmp (op a b A B : Int) : Int := cutI (mulI a (sA op A B) + mulI b (sB op A B))
/-- one value by an operator, ahead of the cut, as the document has it -/
def doc (op a b A B : Int) : Int := if op = 0 then a + mulI b (255 - A) else if op = 1 then mulI a B else if op = 2 then mulI a (255 - B) else if op = 3 then mulI a B + mulI b (255 - A) else if op = 4 then mulI a (255 - B) + mulI b (255 - A) else 0
/-- the less and the greater of two numbers -/
def mn (a b : Int) : Int := min a b
def mx (a b : Int) : Int := max a b
/-- what is of each colour where the other one's pixel isn't -/
def aprt (a b A B : Int) : Int := mulI a (255 - B) + mulI b (255 - A)
/-- one colour by a mode other than Normal, ahead of the cut -/
def col (m a b A B : Int) : Int := if m = 1 then mulI a b + aprt a b A B else if m = 2 then a + b - mulI a b else if m = 3 then mn (mulI a B) (mulI b A) + aprt a b A B else if m = 4 then mx (mulI a B) (mulI b A) + aprt a b A B else if m = 5 then a + b - 2 * mn (mulI a B) (mulI b A) else a + b
/-- alpha by a mode other than Normal -/
def cov (m A B : Int) : Int := if m = 6 then cutI (A + B) else cutI (A + B - mulI A B)
/-- one colour by a mode -/
def bl (m a b A B : Int) : Int := if m = 0 then cmp 0 a b A B else mn (cutI (col m a b A B)) (cov m A B)
/-- alpha by a mode -/
def ba (m A B : Int) : Int := if m = 0 then cmp 0 A B A B else cov m A B

theorem cut_bd (n : Int) : 0 ≤ cutI n ∧ cutI n ≤ 255 := by unfold cutI; (repeat' split) <;> omega
theorem cut_id {n : Int} (h : 0 ≤ n ∧ n ≤ 255) : cutI n = n := by unfold cutI; rw [if_neg (by omega), if_neg (by omega)]
theorem cut_mono {m n : Int} (h : m ≤ n) : cutI m ≤ cutI n := by unfold cutI; (repeat' split) <;> omega
theorem sA_bd (op : Int) {A B : Int} (hA : 0 ≤ A ∧ A ≤ 255) (hB : 0 ≤ B ∧ B ≤ 255) : 0 ≤ sA op A B ∧ sA op A B ≤ 255 := by unfold sA; (repeat' split) <;> omega
theorem sB_bd (op : Int) {A B : Int} (hA : 0 ≤ A ∧ A ≤ 255) (hB : 0 ≤ B ∧ B ≤ 255) : 0 ≤ sB op A B ∧ sB op A B ≤ 255 := by unfold sB; (repeat' split) <;> omega
theorem cmp_bd (op a b A B : Int) : 0 ≤ cmp op a b A B ∧ cmp op a b A B ≤ 255 := cut_bd _
theorem cov_bd (m A B : Int) : 0 ≤ cov m A B ∧ cov m A B ≤ 255 := by unfold cov; split <;> exact cut_bd _
theorem ba_bd (m A B : Int) : 0 ≤ ba m A B ∧ ba m A B ≤ 255 := by unfold ba; split; exact cmp_bd _ _ _ _ _; exact cov_bd _ _ _
theorem bl_bd (m a b A B : Int) : 0 ≤ bl m a b A B ∧ bl m a b A B ≤ 255 := by
  have h1 := cut_bd (col m a b A B)
  have h2 := cov_bd m A B
  unfold bl; split
  · exact cmp_bd _ _ _ _ _
  · unfold mn; omega
theorem mul_0' (a : Int) : mulI 0 a = 0 := by rw [mul_comm]; exact mul_0 a
/-- the program's way to an operator is the document's -/
theorem doc_cmp {op a b A B : Int} (ha : 0 ≤ a ∧ a ≤ 255) : mulI a (sA op A B) + mulI b (sB op A B) = doc op a b A B := by
  unfold sA sB doc
  (repeat' split) <;> (try simp only [mul_255 ha, mul_0]) <;> omega
theorem cmp_doc {op a b A B : Int} (ha : 0 ≤ a ∧ a ≤ 255) : cutI (doc op a b A B) = cmp op a b A B := by unfold cmp; rw [doc_cmp ha]
theorem doc_bd {op a b A B : Int} (ha : 0 ≤ a ∧ a ≤ 255) (hb : 0 ≤ b ∧ b ≤ 255) (hA : 0 ≤ A ∧ A ≤ 255) (hB : 0 ≤ B ∧ B ≤ 255) : 0 ≤ doc op a b A B ∧ doc op a b A B ≤ 510 := by
  have h1 := mul_bd ha (sA_bd op hA hB)
  have h2 := mul_bd hb (sB_bd op hA hB)
  rw [← doc_cmp ha]; omega
/-- cutting to alpha, behind or ahead of the cut to a tone -/
theorem cut_mn {n c : Int} (hc : 0 ≤ c ∧ c ≤ 255) : cutI (mn n c) = mn (cutI n) c := by unfold mn cutI; (repeat' split) <;> omega
theorem mx_mn (x y : Int) : x + y - mn x y = mx x y := by unfold mn mx; omega
theorem less_bd {A : Int} (hA : 0 ≤ A ∧ A ≤ 255) : 0 ≤ 255 - A ∧ 255 - A ≤ 255 := by omega
theorem aprt_bd {a b A B : Int} (ha : 0 ≤ a ∧ a ≤ 255) (hb : 0 ≤ b ∧ b ≤ 255) (hA : 0 ≤ A ∧ A ≤ 255) (hB : 0 ≤ B ∧ B ≤ 255) : 0 ≤ aprt a b A B ∧ aprt a b A B ≤ 510 := by
  have h1 := mul_bd ha (less_bd hB)
  have h2 := mul_bd hb (less_bd hA)
  unfold aprt; omega
theorem col_bd (m : Int) {a b A B : Int} (ha : 0 ≤ a ∧ a ≤ 255) (hb : 0 ≤ b ∧ b ≤ 255) (hA : 0 ≤ A ∧ A ≤ 255) (hB : 0 ≤ B ∧ B ≤ 255) : -1000 ≤ col m a b A B ∧ col m a b A B ≤ 1000 := by
  have h1 := aprt_bd ha hb hA hB
  have h2 := mul_bd ha hb
  have h3 := mul_bd ha hB
  have h4 := mul_bd hb hA
  unfold col mn mx
  (repeat' split) <;> omega

/-- products with a tone and with what lacks from it to 255 come to the whole -/
theorem mul_parts {a B : Int} (ha : 0 ≤ a ∧ a ≤ 255) (hB : 0 ≤ B ∧ B ≤ 255) : mulI a B + mulI a (255 - B) = a := by
  have h1 := rnd_near (prod_bd ha hB)
  have h2 := rnd_near (prod_bd ha (less_bd hB))
  have e : a * (255 - B) = 255 * a - a * B := by rw [Int.mul_sub]; omega
  unfold mulI
  rw [e] at h2 ⊢
  generalize a * B = x at *
  omega

/-- what right colours are composed to is no more than what alphas are -/
theorem cmp_right {op a b A B : Int} (ha : 0 ≤ a ∧ a ≤ A) (hb : 0 ≤ b ∧ b ≤ B) (hA : A ≤ 255) (hB : B ≤ 255) : cmp op a b A B ≤ cmp op A B A B := by
  have h1 := sA_bd (A := A) (B := B) op (by omega) (by omega)
  have h2 := sB_bd (A := A) (B := B) op (by omega) (by omega)
  have h3 := mul_mono (c := sA op A B) ha.2 h1.1
  have h4 := mul_mono (c := sB op A B) hb.2 h2.1
  exact cut_mono (by omega)
theorem bl_right {m a b A B : Int} (ha : 0 ≤ a ∧ a ≤ A) (hb : 0 ≤ b ∧ b ≤ B) (hA : A ≤ 255) (hB : B ≤ 255) : bl m a b A B ≤ ba m A B := by
  unfold bl ba
  split
  · exact cmp_right ha hb hA hB
  · unfold mn; omega

/-- nothing on top -/
theorem cmp_none {op b B : Int} (hb : 0 ≤ b ∧ b ≤ 255) (h : op = 0 ∨ op = 3 ∨ op = 4) : cmp op 0 b 0 B = b := by
  have h0 := mul_255 hb
  unfold cmp
  rw [mul_0']
  rcases h with rfl | rfl | rfl
  all_goals
    simp [sB, h0]
    exact cut_id hb
theorem cmp_none' {op b B : Int} (h : op = 1 ∨ op = 2 ∨ op = 5) : cmp op 0 b 0 B = 0 := by
  unfold cmp
  rw [mul_0']
  rcases h with rfl | rfl | rfl
  all_goals
    simp [sB, mul_0]
    decide
/-- onto nothing -/
theorem cmp_onto {op a A : Int} (ha : 0 ≤ a ∧ a ≤ 255) (h : op = 0 ∨ op = 2 ∨ op = 4) : cmp op a 0 A 0 = a := by
  have h0 := mul_255 ha
  unfold cmp
  rw [mul_0']
  rcases h with rfl | rfl | rfl
  all_goals
    simp [sA, h0]
    exact cut_id ha
theorem cmp_clear (a b A B : Int) : cmp 5 a b A B = 0 := by
  unfold cmp sA sB
  simp [mul_0]
  decide
theorem cov_none {m B : Int} (hB : 0 ≤ B ∧ B ≤ 255) : cov m 0 B = B := by
  unfold cov
  rw [mul_0']
  split <;> (have := cut_id hB; simp [this])
theorem cov_onto {m A : Int} (hA : 0 ≤ A ∧ A ≤ 255) : cov m A 0 = A := by
  unfold cov
  rw [mul_0]
  split <;> (have := cut_id hA; simp [this])
theorem col_none {m b B : Int} (hb : 0 ≤ b ∧ b ≤ 255) (hm : 0 < m ∧ m ≤ 6) : col m 0 b 0 B = b := by
  have h0 := mul_255 hb
  unfold col aprt mn mx
  simp only [mul_0', mul_0]
  (repeat' split) <;> simp [h0]
theorem col_onto {m a A : Int} (ha : 0 ≤ a ∧ a ≤ 255) (hm : 0 < m ∧ m ≤ 6) : col m a 0 A 0 = a := by
  have h0 := mul_255 ha
  unfold col aprt mn mx
  simp only [mul_0', mul_0]
  (repeat' split) <;> simp [h0]
theorem bl_none {m b B : Int} (hb : 0 ≤ b ∧ b ≤ B) (hB : B ≤ 255) (hm : 0 ≤ m ∧ m ≤ 6) : bl m 0 b 0 B = b := by
  unfold bl
  split
  · exact cmp_none (by omega) (Or.inl rfl)
  · rw [col_none (by omega) (by omega), cov_none (by omega), cut_id (by omega)]
    unfold mn; omega
theorem bl_onto {m a A : Int} (ha : 0 ≤ a ∧ a ≤ A) (hA : A ≤ 255) (hm : 0 ≤ m ∧ m ≤ 6) : bl m a 0 A 0 = a := by
  unfold bl
  split
  · exact cmp_onto (by omega) (Or.inl rfl)
  · rw [col_onto (by omega) (by omega), cov_onto (by omega), cut_id (by omega)]
    unfold mn; omega
theorem ba_none {m B : Int} (hB : 0 ≤ B ∧ B ≤ 255) : ba m 0 B = B := by
  unfold ba
  split
  · exact cmp_none hB (Or.inl rfl)
  · exact cov_none hB
theorem ba_onto {m A : Int} (hA : 0 ≤ A ∧ A ≤ 255) : ba m A 0 = A := by
  unfold ba
  split
  · exact cmp_onto hA (Or.inl rfl)
  · exact cov_onto hA

/-- which is on top -/
theorem col_turn (m a b A B : Int) : col m b a B A = col m a b A B := by
  have e := mul_comm b a
  unfold col aprt mn mx
  rw [e]
  (repeat' split) <;> omega
theorem cov_turn (m A B : Int) : cov m B A = cov m A B := by
  unfold cov
  rw [mul_comm B A, Int.add_comm B A]
theorem bl_turn {m : Int} (hm : 0 < m) (a b A B : Int) : bl m b a B A = bl m a b A B := by
  unfold bl
  rw [if_neg (by omega), if_neg (by omega), col_turn, cov_turn]
theorem ba_turn {m : Int} (hm : 0 < m) (A B : Int) : ba m B A = ba m A B := by
  unfold ba
  rw [if_neg (by omega), if_neg (by omega), cov_turn]
theorem cmp_turn (a b A B : Int) : cmp 4 b a B A = cmp 4 a b A B := by
  unfold cmp sA sB
  simp
  rw [Int.add_comm]

/-- full alpha -/
theorem bl_full {a b B : Int} (ha : 0 ≤ a ∧ a ≤ 255) : bl 0 a b 255 B = a := by
  have h0 := mul_255 ha
  unfold bl cmp sA sB
  simp [h0, mul_0]
  exact cut_id ha
theorem ba_full {B : Int} : ba 0 255 B = 255 := by
  unfold ba cmp sA sB
  simp [mul_0]
  decide
theorem ba_on {m A : Int} (hA : 0 ≤ A ∧ A ≤ 255) : ba m A 255 = 255 := by
  have h1 := mul_255 hA
  have h2 := mul_255 (less_bd hA)
  rw [mul_comm] at h2
  unfold ba
  split
  · unfold cmp sA sB
    simp [h1, h2]
    rw [show A + (255 - A) = 255 by omega]; decide
  · unfold cov
    rw [h1]
    split
    · unfold cutI; rw [if_neg (by omega)]; split <;> omega
    · rw [show A + 255 - A = 255 by omega]; decide
theorem ba_top {m B : Int} (hB : 0 ≤ B ∧ B ≤ 255) : ba m 255 B = 255 := by
  by_cases h : m = 0
  · subst h; exact ba_full
  · have e : ba m 255 B = ba m B 255 := by unfold ba; rw [if_neg h, if_neg h, cov_turn]
    rw [e]; exact ba_on hB
end Go.Proofs.Ytfgfgfmimejpdaa.Tn
/- What mixing a pixel on top of another and scaling one do: contracts. -/
namespace Go.Proofs.Ytfgfgfmimejpdaa.Tn
open Go.RowKit
set_option linter.unusedVariables false
set_option linter.unusedSimpArgs false

theorem ret_int {k : IntKind} {a b : Int} (h : a = b) : Ending.returned (.int k a) = .returned (.int k b) := by rw [h]

theorem mul_any (a b : Int) (w : World) (ha : 0 ≤ a ∧ a ≤ 255) (hb : 0 ≤ b ∧ b ≤ 255) :
    Calls Try.prog 76 #[.int .u8 a, .int .u8 b] w fun e w' => e = .returned (.int .u8 (mulI a b)) ∧ w' = w := by
  have hp := prod_bd ha hb
  obtain ⟨a0, a1⟩ := ha
  obtain ⟨b0, b1⟩ := hb
  obtain ⟨p0, p1⟩ := hp
  go_enter Try.func76, Try.ntmps76
  go_wp2
  go_ret
  exact ⟨rfl, rfl⟩

theorem refMul_any (a b : Int) (w : World) (ha : 0 ≤ a ∧ a ≤ 255) (hb : 0 ≤ b ∧ b ≤ 255) :
    Calls Try.prog 79 #[.int .u8 a, .int .u8 b] w fun e w' => e = .returned (.int .u8 (mulI a b)) ∧ w' = w := by
  have hp := prod_bd ha hb
  have HR : Hid (rnd (a * b) = if 255 < 2 * (a * b - 255 * (a * b / 255)) then a * b / 255 + 1 else a * b / 255) := rnd_ref hp
  obtain ⟨a0, a1⟩ := ha
  obtain ⟨b0, b1⟩ := hb
  obtain ⟨p0, p1⟩ := hp
  go_enter Try.func79, Try.ntmps79
  go_wp2
  · go_ret
    exact ⟨ret_int (by unfold mulI; rw [HR.out, if_pos (by assumption)]), rfl⟩
  · go_ret
    exact ⟨ret_int (by unfold mulI; rw [HR.out, if_neg (by omega)]), rfl⟩

theorem cut_any (n : Int) (w : World) (h : -9223372036854775808 ≤ n ∧ n ≤ 9223372036854775807) :
    Calls Try.prog 89 #[.int .i64 n] w fun e w' => e = .returned (.int .u8 (cutI n)) ∧ w' = w := by
  obtain ⟨h0, h1⟩ := h
  by_cases c1 : n < 0
  · go_enter Try.func89, Try.ntmps89
    go_wp2
    go_ret
    exact ⟨ret_int (by unfold cutI; rw [if_pos c1]), rfl⟩
  · by_cases c2 : 255 < n
    · go_enter Try.func89, Try.ntmps89
      go_wp2
      go_ret
      exact ⟨ret_int (by unfold cutI; rw [if_neg (by omega), if_pos (by omega)]), rfl⟩
    · go_enter Try.func89, Try.ntmps89
      go_wp2
      go_ret
      exact ⟨ret_int (by unfold cutI; rw [if_neg (by omega), if_neg (by omega)]), rfl⟩

theorem refCut_any (n : Int) (w : World) (h : -9223372036854775808 ≤ n ∧ n ≤ 9223372036854775807) :
    Calls Try.prog 93 #[.int .i64 n] w fun e w' => e = .returned (.int .u8 (cutI n)) ∧ w' = w := by
  obtain ⟨h0, h1⟩ := h
  by_cases c1 : n < 0
  · go_enter Try.func93, Try.ntmps93
    go_wp2
    go_ret
    exact ⟨ret_int (by unfold cutI; rw [if_pos c1]), rfl⟩
  · by_cases c2 : 255 < n
    · go_enter Try.func93, Try.ntmps93
      go_wp2
      go_ret
      exact ⟨ret_int (by unfold cutI; rw [if_neg (by omega), if_pos (by omega)]), rfl⟩
    · go_enter Try.func93, Try.ntmps93
      go_wp2
      go_ret
      exact ⟨ret_int (by unfold cutI; rw [if_neg (by omega), if_neg (by omega)]), rfl⟩

theorem quo_hi {c a : Int} (hc : c ≤ 255) (ha : 0 < a) : (510 * c + a) / (2 * a) ≤ 65536 := by
  have := Int.ediv_lt_of_lt_mul (a := 510 * c + a) (b := 65537) (c := 2 * a) (by omega) (by omega); omega


theorem scale_any (r g b a : Int) (w : World) (hr : 0 ≤ r ∧ r ≤ 255) (hg : 0 ≤ g ∧ g ≤ 255) (hb : 0 ≤ b ∧ b ≤ 255) (ha : 0 ≤ a ∧ a ≤ 255) (k : Int) (hk : 0 ≤ k ∧ k ≤ 255) :
    Calls Try.prog 56 #[.agg #[.int .u8 r, .int .u8 g, .int .u8 b, .int .u8 a], .int .u8 k] w fun e w' => e = .returned (.agg #[.int .u8 (mulI r k), .int .u8 (mulI g k), .int .u8 (mulI b k), .int .u8 (mulI a k)]) ∧ ∃ (c1 c2 : Array Value) (n : Nat), w' = ((w.alloc (.cells c1 28)).alloc (.cells c2 28)).drewN n := by
  go_enter Try.func56, Try.ntmps56
  go_wp2
  refine wp_loop_rounds 5 ?_
  rw [rounds_succ]
  go_wp2_with (go_at_call 76; refine (mul_any _ _ _ ‹_› ‹_›).mono ?_; rintro e w' ⟨rfl, rfl⟩)
  rw [rounds_succ]
  go_wp2_with (go_at_call 76; refine (mul_any _ _ _ ‹_› ‹_›).mono ?_; rintro e w' ⟨rfl, rfl⟩)
  rw [rounds_succ]
  go_wp2_with (go_at_call 76; refine (mul_any _ _ _ ‹_› ‹_›).mono ?_; rintro e w' ⟨rfl, rfl⟩)
  rw [rounds_succ]
  go_wp2_with (go_at_call 76; refine (mul_any _ _ _ ‹_› ‹_›).mono ?_; rintro e w' ⟨rfl, rfl⟩)
  rw [rounds_succ]
  go_wp2
  simp [bodyPost, results, Try.results56, go_sem]
  exact ⟨_, _, 0, rfl⟩

theorem refScale_any (r g b a : Int) (w : World) (hr : 0 ≤ r ∧ r ≤ 255) (hg : 0 ≤ g ∧ g ≤ 255) (hb : 0 ≤ b ∧ b ≤ 255) (ha : 0 ≤ a ∧ a ≤ 255) (k : Int) (hk : 0 ≤ k ∧ k ≤ 255) :
    Calls Try.prog 59 #[.agg #[.int .u8 r, .int .u8 g, .int .u8 b, .int .u8 a], .int .u8 k] w fun e w' => e = .returned (.agg #[.int .u8 (mulI r k), .int .u8 (mulI g k), .int .u8 (mulI b k), .int .u8 (mulI a k)]) ∧ ∃ (c1 c2 : Array Value) (n : Nat), w' = ((w.alloc (.cells c1 28)).alloc (.cells c2 28)).drewN n := by
  go_enter Try.func59, Try.ntmps59
  go_wp2
  go_region_held3 (fun w' => w'.cell? ⟨w.heap.size, 0, none⟩ = some (.int .u8 r) ∧ w'.cell? ⟨w.heap.size, 1, none⟩ = some (.int .u8 g) ∧ w'.cell? ⟨w.heap.size, 2, none⟩ = some (.int .u8 b) ∧ w'.cell? ⟨w.heap.size, 3, none⟩ = some (.int .u8 a)) (simp [go_sem, World.cell?_alloc_past]) ((go_at_call 79; refine (refMul_any _ _ _ ‹_› ‹_›).mono ?_; rintro e w' ⟨rfl, rfl⟩))
  go_wp2
  simp [bodyPost, results, Try.results59, go_sem]
  exact ⟨_, _, 1, rfl⟩


theorem mulN_any (a b : Int) (w : World) (ha : 0 ≤ a ∧ a ≤ 255) (hb : 0 ≤ b ∧ b ≤ 255) :
    Calls Try.prog 90 #[.int .u8 a, .int .u8 b] w fun e w' => e = .returned (.int .i64 (mulI a b)) ∧ w' = w := by
  have hm := mul_bd ha hb
  go_enter Try.func90, Try.ntmps90
  go_wp2_with (go_at_call 76; refine (mul_any _ _ _ ‹_› ‹_›).mono ?_; rintro e w' ⟨rfl, rfl⟩)
  go_ret
  exact ⟨rfl, rfl⟩
theorem by_any (a b : Int) (w : World) (ha : 0 ≤ a ∧ a ≤ 255) (hb : 0 ≤ b ∧ b ≤ 255) :
    Calls Try.prog 92 #[.int .u8 a, .int .u8 b] w fun e w' => e = .returned (.int .i64 (mulI a b)) ∧ w' = w := by
  have hm := mul_bd ha hb
  go_enter Try.func92, Try.ntmps92
  go_wp2_with (go_at_call 79; refine (refMul_any _ _ _ ‹_› ‹_›).mono ?_; rintro e w' ⟨rfl, rfl⟩)
  go_ret
  exact ⟨rfl, rfl⟩
theorem six {op : Int} (h : 0 ≤ op ∧ op ≤ 5) : op = 0 ∨ op = 1 ∨ op = 2 ∨ op = 3 ∨ op = 4 ∨ op = 5 := by omega
theorem seven {m : Int} (h : 0 ≤ m ∧ m ≤ 6) : m = 0 ∨ m = 1 ∨ m = 2 ∨ m = 3 ∨ m = 4 ∨ m = 5 ∨ m = 6 := by omega
theorem six' {m : Int} (h : 1 ≤ m ∧ m ≤ 6) : m = 1 ∨ m = 2 ∨ m = 3 ∨ m = 4 ∨ m = 5 ∨ m = 6 := by omega

theorem shares_any (op A B : Int) (w : World) (ho : 0 ≤ op ∧ op ≤ 5) (hA : 0 ≤ A ∧ A ≤ 255) (hB : 0 ≤ B ∧ B ≤ 255) :
    Calls Try.prog 88 #[.int .i64 op, .int .u8 A, .int .u8 B] w fun e w' => e = .returned (.tuple #[.int .u8 (sA op A B), .int .u8 (sB op A B)]) ∧ w' = w := by
  obtain ⟨A0, A1⟩ := hA
  obtain ⟨B0, B1⟩ := hB
  rcases six ho with rfl | rfl | rfl | rfl | rfl | rfl
  all_goals
    clear ho
    go_enter Try.func88, Try.ntmps88
    go_wp2
    simp [bodyPost, results, Try.results88, go_sem, sA, sB]

attribute [local go_sem ↓] Go.wp_at_zero Go.wp_at_succ

set_option maxHeartbeats 2000000 in
theorem comp_any (op r g b a p q s c : Int) (w : World) (ho : 0 ≤ op ∧ op ≤ 5) (hr : 0 ≤ r ∧ r ≤ 255) (hg : 0 ≤ g ∧ g ≤ 255) (hb : 0 ≤ b ∧ b ≤ 255) (ha : 0 ≤ a ∧ a ≤ 255) (hp : 0 ≤ p ∧ p ≤ 255) (hq : 0 ≤ q ∧ q ≤ 255) (hs : 0 ≤ s ∧ s ≤ 255) (hc : 0 ≤ c ∧ c ≤ 255) :
    Calls Try.prog 77 #[.int .i64 op, .agg #[.int .u8 r, .int .u8 g, .int .u8 b, .int .u8 a], .agg #[.int .u8 p, .int .u8 q, .int .u8 s, .int .u8 c]] w fun e w' => e = .returned (.agg #[.int .u8 (cmp op r p a c), .int .u8 (cmp op g q a c), .int .u8 (cmp op b s a c), .int .u8 (cmp op a c a c)]) ∧ Below w.heap.size w w' := by
  have sa := sA_bd op ha hc
  have sb := sB_bd op ha hc
  have x0 := mul_bd hr sa
  have y0 := mul_bd hp sb
  have e0 : IntKind.i64.wrap (mulI r (sA op a c) + mulI p (sB op a c)) = mulI r (sA op a c) + mulI p (sB op a c) := by rw [IntKind.wrap_i64]; omega
  have x1 := mul_bd hg sa
  have y1 := mul_bd hq sb
  have e1 : IntKind.i64.wrap (mulI g (sA op a c) + mulI q (sB op a c)) = mulI g (sA op a c) + mulI q (sB op a c) := by rw [IntKind.wrap_i64]; omega
  have x2 := mul_bd hb sa
  have y2 := mul_bd hs sb
  have e2 : IntKind.i64.wrap (mulI b (sA op a c) + mulI s (sB op a c)) = mulI b (sA op a c) + mulI s (sB op a c) := by rw [IntKind.wrap_i64]; omega
  have x3 := mul_bd ha sa
  have y3 := mul_bd hc sb
  have e3 : IntKind.i64.wrap (mulI a (sA op a c) + mulI c (sB op a c)) = mulI a (sA op a c) + mulI c (sB op a c) := by rw [IntKind.wrap_i64]; omega
  go_enter Try.func77, Try.ntmps77
  go_wp2_with (go_at_call 88; refine (shares_any _ _ _ _ ‹_› ‹_› ‹_›).mono ?_; rintro e w' ⟨rfl, rfl⟩)
  refine wp_loop_rounds 5 ?_
  rw [rounds_succ]
  go_wp2
  go_region_held3 (fun w' => (w'.cell? ⟨w.heap.size, 0, none⟩ = some (.int .u8 r) ∧ w'.cell? ⟨w.heap.size, 1, none⟩ = some (.int .u8 g) ∧ w'.cell? ⟨w.heap.size, 2, none⟩ = some (.int .u8 b) ∧ w'.cell? ⟨w.heap.size, 3, none⟩ = some (.int .u8 a)) ∧ (w'.cell? ⟨w.heap.size + 1, 0, none⟩ = some (.int .u8 p) ∧ w'.cell? ⟨w.heap.size + 1, 1, none⟩ = some (.int .u8 q) ∧ w'.cell? ⟨w.heap.size + 1, 2, none⟩ = some (.int .u8 s) ∧ w'.cell? ⟨w.heap.size + 1, 3, none⟩ = some (.int .u8 c))) (simp [go_sem, World.cell?_alloc_past, World.cell?_setCell_far]) ((first | (go_at_call 90; refine (mulN_any _ _ _ ‹_› ‹_›).mono ?_; rintro e w' ⟨rfl, rfl⟩) | (go_at_call 89; refine (cut_any _ _ ⟨by omega, by omega⟩).mono ?_; rintro e w' ⟨rfl, rfl⟩)))
  go_wp2
  rw [rounds_succ]
  go_wp2
  go_region_held3 (fun w' => (w'.cell? ⟨w.heap.size, 0, none⟩ = some (.int .u8 r) ∧ w'.cell? ⟨w.heap.size, 1, none⟩ = some (.int .u8 g) ∧ w'.cell? ⟨w.heap.size, 2, none⟩ = some (.int .u8 b) ∧ w'.cell? ⟨w.heap.size, 3, none⟩ = some (.int .u8 a)) ∧ (w'.cell? ⟨w.heap.size + 1, 0, none⟩ = some (.int .u8 p) ∧ w'.cell? ⟨w.heap.size + 1, 1, none⟩ = some (.int .u8 q) ∧ w'.cell? ⟨w.heap.size + 1, 2, none⟩ = some (.int .u8 s) ∧ w'.cell? ⟨w.heap.size + 1, 3, none⟩ = some (.int .u8 c))) (simp [go_sem, World.cell?_alloc_past, World.cell?_setCell_far]) ((first | (go_at_call 90; refine (mulN_any _ _ _ ‹_› ‹_›).mono ?_; rintro e w' ⟨rfl, rfl⟩) | (go_at_call 89; refine (cut_any _ _ ⟨by omega, by omega⟩).mono ?_; rintro e w' ⟨rfl, rfl⟩)))
  go_wp2
  rw [rounds_succ]
  go_wp2
  go_region_held3 (fun w' => (w'.cell? ⟨w.heap.size, 0, none⟩ = some (.int .u8 r) ∧ w'.cell? ⟨w.heap.size, 1, none⟩ = some (.int .u8 g) ∧ w'.cell? ⟨w.heap.size, 2, none⟩ = some (.int .u8 b) ∧ w'.cell? ⟨w.heap.size, 3, none⟩ = some (.int .u8 a)) ∧ (w'.cell? ⟨w.heap.size + 1, 0, none⟩ = some (.int .u8 p) ∧ w'.cell? ⟨w.heap.size + 1, 1, none⟩ = some (.int .u8 q) ∧ w'.cell? ⟨w.heap.size + 1, 2, none⟩ = some (.int .u8 s) ∧ w'.cell? ⟨w.heap.size + 1, 3, none⟩ = some (.int .u8 c))) (simp [go_sem, World.cell?_alloc_past, World.cell?_setCell_far]) ((first | (go_at_call 90; refine (mulN_any _ _ _ ‹_› ‹_›).mono ?_; rintro e w' ⟨rfl, rfl⟩) | (go_at_call 89; refine (cut_any _ _ ⟨by omega, by omega⟩).mono ?_; rintro e w' ⟨rfl, rfl⟩)))
  go_wp2
  rw [rounds_succ]
  go_wp2
  go_region_held3 (fun w' => (w'.cell? ⟨w.heap.size, 0, none⟩ = some (.int .u8 r) ∧ w'.cell? ⟨w.heap.size, 1, none⟩ = some (.int .u8 g) ∧ w'.cell? ⟨w.heap.size, 2, none⟩ = some (.int .u8 b) ∧ w'.cell? ⟨w.heap.size, 3, none⟩ = some (.int .u8 a)) ∧ (w'.cell? ⟨w.heap.size + 1, 0, none⟩ = some (.int .u8 p) ∧ w'.cell? ⟨w.heap.size + 1, 1, none⟩ = some (.int .u8 q) ∧ w'.cell? ⟨w.heap.size + 1, 2, none⟩ = some (.int .u8 s) ∧ w'.cell? ⟨w.heap.size + 1, 3, none⟩ = some (.int .u8 c))) (simp [go_sem, World.cell?_alloc_past, World.cell?_setCell_far]) ((first | (go_at_call 90; refine (mulN_any _ _ _ ‹_› ‹_›).mono ?_; rintro e w' ⟨rfl, rfl⟩) | (go_at_call 89; refine (cut_any _ _ ⟨by omega, by omega⟩).mono ?_; rintro e w' ⟨rfl, rfl⟩)))
  go_wp2
  rw [rounds_succ]
  go_wp2
  simp [bodyPost, results, Try.results77, go_sem, cmp]
  go_grown

theorem below_drewN {B : Nat} {a w : World} (h : Below B a w) (n : Nat) : Below B a (w.drewN n) := ⟨h.os, h.tape, h.output, h.size, h.block⟩
/-- a callee that draws nothing, met where draws were made ahead -/
theorem quiet_more {P : Program} {f : FuncId} {args : Array Value} {w : World} {k n : Nat} {v : Value}
    (h : Calls P f args (w.drewN (k + n)) fun e w' => e = .returned v ∧ w' = w.drewN (k + n)) : Calls P f args (w.drewN (k + n)) fun e w'' => e = .returned v ∧ ∃ m, w'' = w.drewN (k + m) :=
  h.mono fun _ _ ⟨he, hm⟩ => ⟨he, n, hm⟩

set_option maxHeartbeats 4000000 in
theorem refComp_any (op r g b a p q s c : Int) (w : World) (ho : op = 0) (hr : 0 ≤ r ∧ r ≤ 255) (hg : 0 ≤ g ∧ g ≤ 255) (hb : 0 ≤ b ∧ b ≤ 255) (ha : 0 ≤ a ∧ a ≤ 255) (hp : 0 ≤ p ∧ p ≤ 255) (hq : 0 ≤ q ∧ q ≤ 255) (hs : 0 ≤ s ∧ s ≤ 255) (hc : 0 ≤ c ∧ c ≤ 255) :
    Calls Try.prog 80 #[.int .i64 op, .agg #[.int .u8 r, .int .u8 g, .int .u8 b, .int .u8 a], .agg #[.int .u8 p, .int .u8 q, .int .u8 s, .int .u8 c]] w fun e w' => e = .returned (.agg #[.int .u8 (cmp op r p a c), .int .u8 (cmp op g q a c), .int .u8 (cmp op b s a c), .int .u8 (cmp op a c a c)]) ∧ Below w.heap.size w w' := by
  have la := less_bd ha
  have lc := less_bd hc
  have wa : IntKind.u8.wrap (255 - a) = 255 - a := by rw [IntKind.wrap_u8]; omega
  have wc : IntKind.u8.wrap (255 - c) = 255 - c := by rw [IntKind.wrap_u8]; omega
  have x0 := mul_bd hr hc
  have y0 := mul_bd hr lc
  have z0 := mul_bd hp la
  have e0 := cmp_doc (op := op) (b := p) (A := a) (B := c) hr
  have x1 := mul_bd hg hc
  have y1 := mul_bd hg lc
  have z1 := mul_bd hq la
  have e1 := cmp_doc (op := op) (b := q) (A := a) (B := c) hg
  have x2 := mul_bd hb hc
  have y2 := mul_bd hb lc
  have z2 := mul_bd hs la
  have e2 := cmp_doc (op := op) (b := s) (A := a) (B := c) hb
  have x3 := mul_bd ha hc
  have y3 := mul_bd ha lc
  have z3 := mul_bd hc la
  have e3 := cmp_doc (op := op) (b := c) (A := a) (B := c) ha
  rw [← e0, ← e1, ← e2, ← e3]
  clear e0 e1 e2 e3
  obtain ⟨x00, x01⟩ := id x0
  obtain ⟨y00, y01⟩ := id y0
  obtain ⟨z00, z01⟩ := id z0
  obtain ⟨x10, x11⟩ := id x1
  obtain ⟨y10, y11⟩ := id y1
  obtain ⟨z10, z11⟩ := id z1
  obtain ⟨x20, x21⟩ := id x2
  obtain ⟨y20, y21⟩ := id y2
  obtain ⟨z20, z21⟩ := id z2
  obtain ⟨x30, x31⟩ := id x3
  obtain ⟨y30, y31⟩ := id y3
  obtain ⟨z30, z31⟩ := id z3
  obtain ⟨hr0, hr1⟩ := id hr
  obtain ⟨hg0, hg1⟩ := id hg
  obtain ⟨hb0, hb1⟩ := id hb
  obtain ⟨ha0, ha1⟩ := id ha
  subst ho
  all_goals
    go_enter Try.func80, Try.ntmps80
    go_wp2
    refine wp_loop_rounds 5 ?_
    rw [rounds_succ]
    go_wp2
    go_quiet (first | (go_at_call 92; refine Calls.quiet_of_same (by_any _ _ _ ‹_› ‹_›)) | (go_at_call 92; refine quiet_more (by_any _ _ _ ‹_› ‹_›)))
    go_wp2
    go_quiet (first | (go_at_call 92; refine Calls.quiet_of_same (by_any _ _ _ ‹_› ‹_›)) | (go_at_call 92; refine quiet_more (by_any _ _ _ ‹_› ‹_›)))
    go_wp2
    go_quiet (first | (go_at_call 92; refine Calls.quiet_of_same (by_any _ _ _ ‹_› ‹_›)) | (go_at_call 92; refine quiet_more (by_any _ _ _ ‹_› ‹_›)))
    go_wp2_with (go_at_call 93; refine (refCut_any _ _ ⟨by omega, by omega⟩).mono ?_; rintro e w' ⟨rfl, rfl⟩)
    rw [rounds_succ]
    go_wp2
    go_quiet (first | (go_at_call 92; refine Calls.quiet_of_same (by_any _ _ _ ‹_› ‹_›)) | (go_at_call 92; refine quiet_more (by_any _ _ _ ‹_› ‹_›)))
    go_wp2
    go_quiet (first | (go_at_call 92; refine Calls.quiet_of_same (by_any _ _ _ ‹_› ‹_›)) | (go_at_call 92; refine quiet_more (by_any _ _ _ ‹_› ‹_›)))
    go_wp2
    go_quiet (first | (go_at_call 92; refine Calls.quiet_of_same (by_any _ _ _ ‹_› ‹_›)) | (go_at_call 92; refine quiet_more (by_any _ _ _ ‹_› ‹_›)))
    go_wp2_with (go_at_call 93; refine (refCut_any _ _ ⟨by omega, by omega⟩).mono ?_; rintro e w' ⟨rfl, rfl⟩)
    rw [rounds_succ]
    go_wp2
    go_quiet (first | (go_at_call 92; refine Calls.quiet_of_same (by_any _ _ _ ‹_› ‹_›)) | (go_at_call 92; refine quiet_more (by_any _ _ _ ‹_› ‹_›)))
    go_wp2
    go_quiet (first | (go_at_call 92; refine Calls.quiet_of_same (by_any _ _ _ ‹_› ‹_›)) | (go_at_call 92; refine quiet_more (by_any _ _ _ ‹_› ‹_›)))
    go_wp2
    go_quiet (first | (go_at_call 92; refine Calls.quiet_of_same (by_any _ _ _ ‹_› ‹_›)) | (go_at_call 92; refine quiet_more (by_any _ _ _ ‹_› ‹_›)))
    go_wp2_with (go_at_call 93; refine (refCut_any _ _ ⟨by omega, by omega⟩).mono ?_; rintro e w' ⟨rfl, rfl⟩)
    rw [rounds_succ]
    go_wp2
    go_quiet (first | (go_at_call 92; refine Calls.quiet_of_same (by_any _ _ _ ‹_› ‹_›)) | (go_at_call 92; refine quiet_more (by_any _ _ _ ‹_› ‹_›)))
    go_wp2
    go_quiet (first | (go_at_call 92; refine Calls.quiet_of_same (by_any _ _ _ ‹_› ‹_›)) | (go_at_call 92; refine quiet_more (by_any _ _ _ ‹_› ‹_›)))
    go_wp2
    go_quiet (first | (go_at_call 92; refine Calls.quiet_of_same (by_any _ _ _ ‹_› ‹_›)) | (go_at_call 92; refine quiet_more (by_any _ _ _ ‹_› ‹_›)))
    go_wp2_with (go_at_call 93; refine (refCut_any _ _ ⟨by omega, by omega⟩).mono ?_; rintro e w' ⟨rfl, rfl⟩)
    rw [rounds_succ]
    go_wp2
    simp [bodyPost, results, Try.results80, go_sem, doc]
    repeat (go_grown; with_reducible refine below_drewN ?_ _)
    go_grown
end Go.Proofs.Ytfgfgfmimejpdaa.Tn
namespace Go.Proofs.Ytfgfgfmimejpdaa
open Num Go.RowKit
set_option linter.unusedVariables false
/-- a pixel on top of another; a pixel scaled -/
def overX (a b : X) : X := ⟨Tn.cmp 0 a.c0 b.c0 a.c3 b.c3, Tn.cmp 0 a.c1 b.c1 a.c3 b.c3, Tn.cmp 0 a.c2 b.c2 a.c3 b.c3, Tn.cmp 0 a.c3 b.c3 a.c3 b.c3⟩
def scaleX (p : X) (k : Int) : X := ⟨Tn.mulI p.c0 k, Tn.mulI p.c1 k, Tn.mulI p.c2 k, Tn.mulI p.c3 k⟩
theorem over_byte (a b : X) : byteX (overX a b) := ⟨Tn.cmp_bd _ _ _ _ _, Tn.cmp_bd _ _ _ _ _, Tn.cmp_bd _ _ _ _ _, Tn.cmp_bd _ _ _ _ _⟩
theorem scale_byte {p : X} {k : Int} (hp : byteX p) (hk : 0 ≤ k ∧ k ≤ 255) : byteX (scaleX p k) := ⟨Tn.mul_bd hp.1 hk, Tn.mul_bd hp.2.1 hk, Tn.mul_bd hp.2.2.1 hk, Tn.mul_bd hp.2.2.2 hk⟩
theorem over_none {b : X} (hb : byteX b) : overX noX b = b := X_ext (Tn.cmp_none hb.1 (.inl rfl)) (Tn.cmp_none hb.2.1 (.inl rfl)) (Tn.cmp_none hb.2.2.1 (.inl rfl)) (Tn.cmp_none hb.2.2.2 (.inl rfl))
theorem over_onto {a : X} (ha : byteX a) : overX a noX = a := X_ext (Tn.cmp_onto ha.1 (.inl rfl)) (Tn.cmp_onto ha.2.1 (.inl rfl)) (Tn.cmp_onto ha.2.2.1 (.inl rfl)) (Tn.cmp_onto ha.2.2.2 (.inl rfl))
theorem over_right {a b : X} (ha : byteX a) (hb : byteX b) (ra : rightX a) (rb : rightX b) : rightX (overX a b) := ⟨Tn.cmp_right ⟨ha.1.1, ra.1⟩ ⟨hb.1.1, rb.1⟩ ha.2.2.2.2 hb.2.2.2.2, Tn.cmp_right ⟨ha.2.1.1, ra.2.1⟩ ⟨hb.2.1.1, rb.2.1⟩ ha.2.2.2.2 hb.2.2.2.2, Tn.cmp_right ⟨ha.2.2.1.1, ra.2.2⟩ ⟨hb.2.2.1.1, rb.2.2⟩ ha.2.2.2.2 hb.2.2.2.2⟩
theorem scale_right {p : X} {k : Int} (hk : 0 ≤ k) (rp : rightX p) : rightX (scaleX p k) := ⟨Tn.mul_mono rp.1 hk, Tn.mul_mono rp.2.1 hk, Tn.mul_mono rp.2.2 hk⟩
theorem scale_no (k : Int) : scaleX noX k = noX := X_ext (Tn.mul_0' _) (Tn.mul_0' _) (Tn.mul_0' _) (Tn.mul_0' _)
theorem over_any (a b : X) (w : World) (ha : byteX a) (hb : byteX b) : Calls Try.prog 77 #[.int .i64 0, pxV a, pxV b] w fun e w' => e = .returned (pxV (overX a b)) ∧ Below w.heap.size w w' :=
  Tn.comp_any 0 a.c0 a.c1 a.c2 a.c3 b.c0 b.c1 b.c2 b.c3 w (by decide) ha.1 ha.2.1 ha.2.2.1 ha.2.2.2 hb.1 hb.2.1 hb.2.2.1 hb.2.2.2
theorem refOver_any (a b : X) (w : World) (ha : byteX a) (hb : byteX b) : Calls Try.prog 80 #[.int .i64 0, pxV a, pxV b] w fun e w' => e = .returned (pxV (overX a b)) ∧ Below w.heap.size w w' :=
  Tn.refComp_any 0 a.c0 a.c1 a.c2 a.c3 b.c0 b.c1 b.c2 b.c3 w rfl ha.1 ha.2.1 ha.2.2.1 ha.2.2.2 hb.1 hb.2.1 hb.2.2.1 hb.2.2.2
theorem two_blocks {w : World} {w' : World} {t : TypeId} (h : ∃ (c1 c2 : Array Value) (n : Nat), w' = ((w.alloc (.cells c1 t)).alloc (.cells c2 t)).drewN n) : Below w.heap.size w w' := by
  obtain ⟨c1, c2, n, rfl⟩ := h
  exact below_drewN (((Below.refl _ _).alloc (Nat.le_refl _) _).alloc (by simp) _) n
theorem scale_any (p : X) (k : Int) (w : World) (hp : byteX p) (hk : 0 ≤ k ∧ k ≤ 255) : Calls Try.prog 56 #[pxV p, .int .u8 k] w fun e w' => e = .returned (pxV (scaleX p k)) ∧ Below w.heap.size w w' :=
  (Tn.scale_any p.c0 p.c1 p.c2 p.c3 w hp.1 hp.2.1 hp.2.2.1 hp.2.2.2 k hk).mono fun _ _ ⟨he, hw⟩ => ⟨he, two_blocks hw⟩
theorem refScale_any (p : X) (k : Int) (w : World) (hp : byteX p) (hk : 0 ≤ k ∧ k ≤ 255) : Calls Try.prog 59 #[pxV p, .int .u8 k] w fun e w' => e = .returned (pxV (scaleX p k)) ∧ Below w.heap.size w w' :=
  (Tn.refScale_any p.c0 p.c1 p.c2 p.c3 w hp.1 hp.2.1 hp.2.2.1 hp.2.2.2 k hk).mono fun _ _ ⟨he, hw⟩ => ⟨he, two_blocks hw⟩
end Go.Proofs.Ytfgfgfmimejpdaa
/- Shadows: the numbers. -/
namespace Go.Proofs.Ytfgfgfmimejpdaa
open Num Go.RowKit
set_option linter.unusedVariables false
set_option linter.unusedSimpArgs false

namespace Num
/-- what is soft, where it falls -/
def softX (B : R) (f : Int → Int → X) (dx dy : Int) (rx ry : Nat) (x y : Int) : X := blurG (atX B f) rx ry (x - dx) (y - dy)
theorem grow_has {D : R} {rx ry : Nat} {x y a b : Int} (hD : Half D) (hx : rx ≤ 255) (hy : ry ≤ 255) (hb : hasB D x y = true) (h1 : x - (rx : Int) ≤ a) (h2 : a ≤ x + (rx : Int)) (h3 : y - (ry : Int) ≤ b) (h4 : b ≤ y + (ry : Int)) : hasB (grow D (rx : Int) (ry : Int) (rx : Int) (ry : Int)) a b = true := by
  have hb' := hasB_iff.1 hb
  have he : empB D = false := emp_no (by omega) (by omega)
  unfold Half at hD
  unfold grow
  rw [if_neg (by simp [he])]
  unfold cutR
  rw [has_orN]
  apply hasB_iff.2
  dsimp only
  unfold cutN mx mn
  omega
theorem soft_img {B D : R} {f : Int → Int → X} {n rx ry : Nat} {dx dy : Int} (hB : bufB B n = true) (hn : n ≤ 5000) (hD : Half D) (hx : rx ≤ 255) (hy : ry ≤ 255) (hdx : -33554432 ≤ dx ∧ dx ≤ 33554432) (hdy : -33554432 ≤ dy ∧ dy ≤ 33554432) :
    img (orN D) (blurG (atX (orN (meet (grow D (rx : Int) (ry : Int) (rx : Int) (ry : Int)) (moveR B dx dy))) (fun x y => atX B f (x - dx) (y - dy))) rx ry) = img (orN D) (softX B f dx dy rx ry) := by
  apply img_ext
  intro x y hb
  rw [has_orN] at hb
  unfold softX
  rw [← blur_move (atX B f) dx dy]
  apply blur_ext
  intro a b h1 h2 h3 h4
  have hg := grow_has hD hx hy hb h1 h2 h3 h4
  have hb' := hasB_iff.1 hb
  rcases c : hasB (orN (meet (grow D (rx : Int) (ry : Int) (rx : Int) (ry : Int)) (moveR B dx dy))) a b with _ | _
  · have e1 : atX (orN (meet (grow D (rx : Int) (ry : Int) (rx : Int) (ry : Int)) (moveR B dx dy))) (fun x y => atX B f (x - dx) (y - dy)) a b = noX := by
      unfold atX
      rw [c]
      rfl
    rw [e1]
    rcases c2 : hasB B (a - dx) (b - dy) with _ | _
    · unfold atX
      rw [c2]
      rfl
    · exfalso
      have hc := hasB_iff.1 c2
      have he : empB B = false := emp_no (by omega) (by omega)
      rcases buf_cases hB with ⟨e, -, -⟩ | ⟨-, hr, ha⟩
      · rw [e] at he; cases he
      · obtain ⟨s1, s2⟩ := area_side he (by omega)
        unfold Half at hD
        have hm := has_move5 (a := a) (b := b) (ok_of_right hr) he s1 s2 hdx hdy (by omega) (by omega)
        rw [has_orN, has_meet2, hg, hm, c2] at c
        cases c
  · have e1 : atX (orN (meet (grow D (rx : Int) (ry : Int) (rx : Int) (ry : Int)) (moveR B dx dy))) (fun x y => atX B f (x - dx) (y - dy)) a b = atX B f (a - dx) (b - dy) := by
      show (if hasB (orN (meet (grow D (rx : Int) (ry : Int) (rx : Int) (ry : Int)) (moveR B dx dy))) a b = true then atX B f (a - dx) (b - dy) else noX) = _
      rw [if_pos c]
    rw [e1]
theorem shift_img {D : R} {dx dy : Int} (G : Int → Int → X) (s : X → X) : (img ⟨D.x0 - dx, D.y0 - dy, D.x1 - dx, D.y1 - dy⟩ G).map s = img D (fun x y => s (G (x - dx) (y - dy))) := by
  have hw : wid ⟨D.x0 - dx, D.y0 - dy, D.x1 - dx, D.y1 - dy⟩ = wid D := by unfold wid; dsimp only; congr 1; omega
  have hh : hei ⟨D.x0 - dx, D.y0 - dy, D.x1 - dx, D.y1 - dy⟩ = hei D := by unfold hei; dsimp only; congr 1; omega
  unfold img
  rw [hw, hh, List.map_map]
  apply List.map_congr_left
  intro i _
  dsimp only [Function.comp]
  have e1 : D.x0 - dx + ((i % wid D : Nat) : Int) = D.x0 + ((i % wid D : Nat) : Int) - dx := by omega
  have e2 : D.y0 - dy + ((i / wid D : Nat) : Int) = D.y0 + ((i / wid D : Nat) : Int) - dy := by omega
  rw [e1, e2]
theorem shift_emp {D : R} {dx dy : Int} (h : empB D = false) : empB ⟨D.x0 - dx, D.y0 - dy, D.x1 - dx, D.y1 - dy⟩ = false := by
  obtain ⟨e1, e2⟩ := of_some h
  exact emp_no (by dsimp only; omega) (by dsimp only; omega)
theorem map_img (Q : R) (G : Int → Int → X) (s : X → X) : (img Q G).map s = img Q (fun x y => s (G x y)) := by
  unfold img
  rw [List.map_map]
  rfl
end Num
end Go.Proofs.Ytfgfgfmimejpdaa
/- One buffer laid on top of another: the contract of the code. -/
namespace Go.Proofs.Ytfgfgfmimejpdaa
open Num Go.RowKit
set_option linter.unusedVariables false
set_option linter.unusedSimpArgs false

theorem over4 (a0 a1 a2 a3 b0 b1 b2 b3 : Int) (w : World) (ha : byteX ⟨a0, a1, a2, a3⟩) (hb : byteX ⟨b0, b1, b2, b3⟩) : Calls Try.prog 77 #[.int .i64 0, .agg #[.int .u8 a0, .int .u8 a1, .int .u8 a2, .int .u8 a3], .agg #[.int .u8 b0, .int .u8 b1, .int .u8 b2, .int .u8 b3]] w fun e w' => e = .returned (pxV (overX ⟨a0, a1, a2, a3⟩ ⟨b0, b1, b2, b3⟩)) ∧ Below w.heap.size w w' := over_any ⟨a0, a1, a2, a3⟩ ⟨b0, b1, b2, b3⟩ w ha hb
theorem hasB_iff' {r : R} {x y : Int} : hasB r x y = true ↔ (r.x0 ≤ x ∧ x < r.x1) ∧ (r.y0 ≤ y ∧ y < r.y1) := by
  unfold hasB
  rw [decide_eq_true_eq]
  omega
/-- rows ahead of y are laid, and in the row y what is ahead of x -/
def layO (A : R) (u F : Int → Int → X) (y : Int) (x' y' : Int) : X := if hasB A x' y' = true ∧ y' < y then overX (u x' y') (F x' y') else F x' y'
def layG (A : R) (u F : Int → Int → X) (x y : Int) (x' y' : Int) : X := if hasB A x' y' = true ∧ (y' < y ∨ (y' = y ∧ x' < x)) then overX (u x' y') (F x' y') else F x' y'
theorem lay_start (A : R) (u F : Int → Int → X) : layO A u F A.y0 = F := by
  funext x' y'
  unfold layO
  rw [if_neg (fun h => by have := hasB_iff'.1 h.1; omega)]
theorem lay_row0 (A : R) (u F : Int → Int → X) (y : Int) : layG A u F A.x0 y = layO A u F y := by
  funext x' y'
  unfold layO layG
  by_cases e : hasB A x' y' = true ∧ y' < y
  · rw [if_pos e, if_pos ⟨e.1, .inl e.2⟩]
  · rw [if_neg e, if_neg]
    rintro ⟨h1, h2 | h2⟩
    · exact e ⟨h1, h2⟩
    · have := hasB_iff'.1 h1; omega
theorem lay_row1 (A : R) (u F : Int → Int → X) (y : Int) : layG A u F A.x1 y = layO A u F (y + 1) := by
  funext x' y'
  unfold layO layG
  by_cases e : hasB A x' y' = true ∧ y' < y + 1
  · rw [if_pos e, if_pos ⟨e.1, by have := hasB_iff'.1 e.1; omega⟩]
  · rw [if_neg e, if_neg]
    rintro ⟨h1, h2⟩
    exact e ⟨h1, by omega⟩
theorem lay_at (A : R) (u F : Int → Int → X) (x y : Int) : layG A u F x y x y = F x y := by
  unfold layG
  rw [if_neg (by rintro ⟨-, h | h⟩ <;> omega)]
theorem lay_step {A : R} {u F : Int → Int → X} {x y : Int} (h : hasB A x y = true) : putG (layG A u F x y) y x (x + 1) (fun _ => overX (u x y) (F x y)) = layG A u F (x + 1) y := by
  funext x' y'
  unfold putG
  by_cases e : y' = y ∧ x ≤ x' ∧ x' < x + 1
  · rw [if_pos e]
    obtain ⟨rfl, e2, e3⟩ := e
    obtain rfl : x' = x := by omega
    unfold layG
    rw [if_pos ⟨h, .inr ⟨rfl, by omega⟩⟩]
  · rw [if_neg e]
    unfold layG
    by_cases d : hasB A x' y' = true ∧ (y' < y ∨ (y' = y ∧ x' < x))
    · rw [if_pos d, if_pos ⟨d.1, by omega⟩]
    · rw [if_neg d, if_neg]
      rintro ⟨h1, h2⟩
      exact d ⟨h1, by omega⟩
theorem lay_end {M B : R} {h F : Int → Int → X} (hF : ∀ x y, byteX (F x y)) : img M (layO (meet M B) (atX B h) F (meet M B).y1) = img M (fun x y => overX (atX B h x y) (F x y)) := by
  apply img_ext
  intro x y hb
  unfold layO
  by_cases c : hasB (meet M B) x y = true
  · rw [if_pos ⟨c, by have := hasB_iff'.1 c; omega⟩]
  · rw [if_neg (fun hh => c hh.1)]
    have h2 : ¬ hasB B x y = true := by
      intro h3
      rw [has_meet, hb, h3] at c
      exact c rfl
    unfold atX
    rw [if_neg h2, over_none (hF x y)]
theorem meet_in2 {B r : R} (he : empB (meet B r) = false) : r.x0 ≤ (meet B r).x0 ∧ (meet B r).x1 ≤ r.x1 ∧ r.y0 ≤ (meet B r).y0 ∧ (meet B r).y1 ≤ r.y1 := by
  unfold meet at he ⊢
  rcases e2 : empB ⟨mx B.x0 r.x0, mx B.y0 r.y0, mn B.x1 r.x1, mn B.y1 r.y1⟩ with _ | _
  · rw [orN_no e2]
    dsimp only
    unfold mx mn
    omega
  · rw [orN_yes e2] at he
    cases he
theorem ox_pix {lo : Nat} {w : World} {ao : Option Addr} {n m g off : Nat} {M : R} {F : Int → Int → X} (h : Ox lo w ao n m g off (img M F)) {q i : Nat} {x y : Int} (hq : posN M x y = q + i) (hi : In M x (x + 1) y) (p : X) :
    Ox lo ((((w.setCell ⟨g, off + q * 4 + i * 4, none⟩ (.int .u8 p.c0)).setCell ⟨g, off + q * 4 + i * 4 + 1, none⟩ (.int .u8 p.c1)).setCell ⟨g, off + q * 4 + i * 4 + 2, none⟩ (.int .u8 p.c2)).setCell ⟨g, off + q * 4 + i * 4 + 3, none⟩ (.int .u8 p.c3)) ao n m g off (img M (putG F y x (x + 1) (fun _ => p))) ∧ But g w ((((w.setCell ⟨g, off + q * 4 + i * 4, none⟩ (.int .u8 p.c0)).setCell ⟨g, off + q * 4 + i * 4 + 1, none⟩ (.int .u8 p.c1)).setCell ⟨g, off + q * 4 + i * 4 + 2, none⟩ (.int .u8 p.c2)).setCell ⟨g, off + q * 4 + i * 4 + 3, none⟩ (.int .u8 p.c3)) := by
  have h1 := ox_img_put h hi (fun _ => p)
  have h2 := but_cells g (off + q * 4 + i * 4) (flat [p]) w
  rw [line_one, hq, show off + (q + i) * 4 = off + q * 4 + i * 4 by omega] at h1
  exact ⟨h1, h2⟩
/-- a pixel's four cells, that may be written -/
theorem ox_cells {lo : Nat} {w : World} {ao : Option Addr} {n m g off : Nat} {l : List X} (h : Ox lo w ao n m g off l) {q i : Nat} {p : X} (hp : l[q + i]? = some p) :
    (w.cell? ⟨g, off + q * 4 + i * 4, none⟩ = some (.int .u8 p.c0) ∧ w.cell? ⟨g, off + q * 4 + i * 4 + 1, none⟩ = some (.int .u8 p.c1) ∧ w.cell? ⟨g, off + q * 4 + i * 4 + 2, none⟩ = some (.int .u8 p.c2) ∧ w.cell? ⟨g, off + q * 4 + i * 4 + 3, none⟩ = some (.int .u8 p.c3)) ∧ (w.frozen? ⟨g, off + q * 4 + i * 4, none⟩ = false ∧ w.frozen? ⟨g, off + q * 4 + i * 4 + 1, none⟩ = false ∧ w.frozen? ⟨g, off + q * 4 + i * 4 + 2, none⟩ = false ∧ w.frozen? ⟨g, off + q * 4 + i * 4 + 3, none⟩ = false) := by
  have hl := vx_len h.v
  have hlt : q + i < l.length := (List.getElem?_eq_some_iff.1 hp).1
  obtain ⟨-, a0, a1, a2, a3⟩ := vx_at h.v hp
  obtain ⟨u0, u1, u2, u3, -, -, -, -, z0, z1, z2, z3⟩ := ox_four h (q := q) (i := i) (by omega)
  rw [show off + (q + i) * 4 = off + q * 4 + i * 4 by omega] at a0 a1 a2 a3
  exact ⟨⟨a0, a1, a2, a3⟩, z0, z1, z2, z3⟩
theorem vx_cells {w : World} {ao : Option Addr} {n m g off : Nat} {l : List X} (h : Vx w ao n m g off l) {q i : Nat} {p : X} (hp : l[q + i]? = some p) :
    w.cell? ⟨g, off + q * 4 + i * 4, none⟩ = some (.int .u8 p.c0) ∧ w.cell? ⟨g, off + q * 4 + i * 4 + 1, none⟩ = some (.int .u8 p.c1) ∧ w.cell? ⟨g, off + q * 4 + i * 4 + 2, none⟩ = some (.int .u8 p.c2) ∧ w.cell? ⟨g, off + q * 4 + i * 4 + 3, none⟩ = some (.int .u8 p.c3) := by
  obtain ⟨-, a0, a1, a2, a3⟩ := vx_at h hp
  rw [show off + (q + i) * 4 = off + q * 4 + i * 4 by omega] at a0 a1 a2 a3
  exact ⟨a0, a1, a2, a3⟩

/-- while a buffer is laid -/
structure Ls (lo : Nat) (w : World) (k2 k3 k4 : Nat) (M B A : R) (ao : Option Addr) (n m g off : Nat) (bo : Option Addr) (bn bm bg boff : Nat) (h F : Int → Int → X) (wr : World) : Prop where
  mm : Has5 wr k2 M ao n m
  s : Has5 wr k3 B bo bn bm
  a : Rc.Has4 wr k4 (.int .i64 A.x0) (.int .i64 A.y0) (.int .i64 A.x1) (.int .i64 A.y1)
  o : Ox lo wr ao n m g off (img M F)
  v : Vx wr bo bn bm bg boff (img B h)
  but : But g w wr
  ne : 0 < m → (k2 ≠ g ∧ k3 ≠ g ∧ k4 ≠ g) ∧ (0 < bn → bg ≠ g)
section
variable {lo : Nat} {w : World} {k2 k3 k4 : Nat} {M B A : R} {ao : Option Addr} {n m g off : Nat} {bo : Option Addr} {bn bm bg boff : Nat} {h F F' : Int → Int → X} {wr wr' : World}
theorem Ls.below (x : Ls lo w k2 k3 k4 M B A ao n m g off bo bn bm bg boff h F wr) (hb : Below wr.heap.size wr wr') : Ls lo w k2 k3 k4 M B A ao n m g off bo bn bm bg boff h F wr' :=
  ⟨x.mm.below hb, x.s.below hb, x.a.below hb, x.o.below hb, x.v.below hb, x.but.to hb, x.ne⟩
theorem Ls.to (x : Ls lo w k2 k3 k4 M B A ao n m g off bo bn bm bg boff h F wr) (hm : 0 < m) (hb : But g wr wr') (ho : Ox lo wr' ao n m g off (img M F')) : Ls lo w k2 k3 k4 M B A ao n m g off bo bn bm bg boff h F' wr' :=
  ⟨x.mm.but hb (x.ne hm).1.1, x.s.but hb (x.ne hm).1.2.1, has4_but x.a hb (x.ne hm).1.2.2, ho, vz_but x.v hb (fun hc => (x.ne hm).2 (by have := x.v.len; omega)), x.but.trans hb, x.ne⟩
end

set_option maxRecDepth 100000 in
set_option maxHeartbeats 8000000 in
theorem lay_any (lo g off n m : Nat) (ao : Option Addr) (M : R) (F : Int → Int → X) (B : R) (bo : Option Addr) (bn bm bg boff : Nat) (h : Int → Int → X) (w : World) (hn : n ≤ 5000) (hM : bufB M n = true) (hO : Ox lo w ao n m g off (img M F)) (hF : ∀ x y, byteX (F x y)) (hbn : bn ≤ 5000) (hB : bufB B bn = true) (hV : Vx w bo bn bm bg boff (img B h)) (hh : ∀ x y, byteX (h x y)) (hne : 0 < m → 0 < bn → bg ≠ g) :
    Calls Try.prog 57 #[.agg #[.int .i64 M.x0, .int .i64 M.y0, .int .i64 M.x1, .int .i64 M.y1, .slice ao n m], .agg #[.int .i64 B.x0, .int .i64 B.y0, .int .i64 B.x1, .int .i64 B.y1, .slice bo bn bm]] w fun e w' => e = .returned (.tuple #[]) ∧ Ox lo w' ao n m g off (img M (fun x y => overX (atX B h x y) (F x y))) ∧ But g w w' := by
  have hOM : Ok M := by
    rcases buf_cases hM with ⟨e1, e2, -⟩ | ⟨e1, e2, e3⟩
    · rw [e2]; exact ok_nil
    · exact ok_of_right e2
  have hOB : Ok B := by
    rcases buf_cases hB with ⟨e1, e2, -⟩ | ⟨e1, e2, e3⟩
    · rw [e2]; exact ok_nil
    · exact ok_of_right e2
  have hnM : n = wid M * hei M := by rw [← vx_len hO.v, img_len]
  have hnB : bn = wid B * hei B := by rw [← vx_len hV, img_len]
  have hbn2 : bn ≤ 9223372036854775807 := by omega
  obtain ⟨A, hA⟩ : ∃ A, A = meet M B := ⟨_, rfl⟩
  have HA := hid hA
  have HM : Hid (meet ⟨M.x0, M.y0, M.x1, M.y1⟩ ⟨B.x0, B.y0, B.x1, B.y1⟩ = A) := hA.symm
  have HAE : Hid (A.y0 < A.y1 → (M.x0 ≤ A.x0 ∧ A.x1 ≤ M.x1 ∧ M.y0 ≤ A.y0 ∧ A.y1 ≤ M.y1 ∧ A.x0 < A.x1) ∧ (B.x0 ≤ A.x0 ∧ A.x1 ≤ B.x1 ∧ B.y0 ≤ A.y0 ∧ A.y1 ≤ B.y1)) := by
    intro hl
    rw [hA] at hl ⊢
    have he := meet_some hl
    have h1 := meet_in he
    exact ⟨⟨h1.1, h1.2.1, h1.2.2.1, h1.2.2.2.1, h1.2.2.2.2.1⟩, meet_in2 he⟩
  have hAe := meet_edges M B
  rw [← hA] at hAe
  have hAok : Ok A := by rw [hA]; exact ok_meet hOM hOB
  obtain ⟨⟨i0, i1⟩, ⟨i2, i3⟩, ⟨i4, i5⟩, i6, i7⟩ := hAok
  obtain ⟨u, hu⟩ : ∃ u, u = atX B h := ⟨_, rfl⟩
  have HFU : Hid (img M (layO A u F A.y1) = img M (fun x y => overX (atX B h x y) (F x y))) := by rw [hA, hu]; exact lay_end hF
  have HU : Hid (∀ x y, hasB B x y = true → u x y = h x y) := fun x y hb => by rw [hu]; unfold atX; rw [if_pos hb]
  have HBY := hid (And.intro hF hh)
  have HN := hid (And.intro hOM (And.intro hnM (And.intro hO.v.le (And.intro hO.v.max trivial))))
  have HNB := hid (And.intro hOB (And.intro hnB (And.intro hV.le (And.intro hV.max trivial))))
  have HB := hid hB
  have HS0 : Hid (Has5 (((w.alloc (.cells #[.int .i64 M.x0, .int .i64 M.y0, .int .i64 M.x1, .int .i64 M.y1, .slice ao n m] 26)).alloc (.cells #[.int .i64 B.x0, .int .i64 B.y0, .int .i64 B.x1, .int .i64 B.y1, .slice bo bn bm] 26))) w.heap.size M ao n m ∧ Has5 (((w.alloc (.cells #[.int .i64 M.x0, .int .i64 M.y0, .int .i64 M.x1, .int .i64 M.y1, .slice ao n m] 26)).alloc (.cells #[.int .i64 B.x0, .int .i64 B.y0, .int .i64 B.x1, .int .i64 B.y1, .slice bo bn bm] 26))) (w.heap.size + 1) B bo bn bm ∧ Below w.heap.size w (((w.alloc (.cells #[.int .i64 M.x0, .int .i64 M.y0, .int .i64 M.x1, .int .i64 M.y1, .slice ao n m] 26)).alloc (.cells #[.int .i64 B.x0, .int .i64 B.y0, .int .i64 B.x1, .int .i64 B.y1, .slice bo bn bm] 26))) ∧ w.heap.size + 1 < (((w.alloc (.cells #[.int .i64 M.x0, .int .i64 M.y0, .int .i64 M.x1, .int .i64 M.y1, .slice ao n m] 26)).alloc (.cells #[.int .i64 B.x0, .int .i64 B.y0, .int .i64 B.x1, .int .i64 B.y1, .slice bo bn bm] 26))).heap.size) := ⟨(Has5.new rfl _ _ _ _ _ _ _ _).alloc _, Has5.new (by simp) _ _ _ _ _ _ _ _, ((Below.refl _ _).alloc (Nat.le_refl _) _).alloc (by simp) _, by simp⟩
  have HO := hid (And.intro hO (And.intro hV hne))
  rw [← HFU.out]
  clear hO hV hne hOM hOB hnM hnB hA hu hF hh hM hB
  obtain ⟨p0, p1, p2, p3, p4, pf⟩ := HS0.out.1
  obtain ⟨q0, q1, q2, q3, q4, qf⟩ := HS0.out.2.1
  go_enter Try.func57, Try.ntmps57
  go_wp2_with (first
    | (go_at_call 65; with_reducible refine Calls.mono (rasterRight_yes B.x0 B.y0 B.x1 B.y1 bo bn bm _ hbn2 HB.out) ?_; rintro e w1 ⟨rfl, hb1⟩; have HS1 := hid (And.intro (HS0.out.1.below hb1) (And.intro (HS0.out.2.1.below hb1) (Rc.via HS0.out.2.2.1 hb1))); have hz1 := hb1.size; clear hb1 p0 p1 p2 p3 p4 pf q0 q1 q2 q3 q4 qf; obtain ⟨p0, p1, p2, p3, p4, pf⟩ := HS1.out.1; obtain ⟨q0, q1, q2, q3, q4, qf⟩ := HS1.out.2.1)
    | (go_at_call 42; with_reducible refine Calls.mono (Rc.meet_any M.x0 M.y0 M.x1 M.y1 B.x0 B.y0 B.x1 B.y1 _) ?_; rintro e w2 ⟨rfl, hb2⟩; rw [HM.out]; have HS2 := hid (And.intro (HS1.out.1.below hb2) (And.intro (HS1.out.2.1.below hb2) (Rc.via HS1.out.2.2 hb2))); have hz2 := hb2.size; clear hb2 p0 p1 p2 p3 p4 pf q0 q1 q2 q3 q4 qf))
  have HLS : Hid (Ls lo w w.heap.size (w.heap.size + 1) w2.heap.size M B A ao n m g off bo bn bm bg boff h (layO A u F A.y0) (w2.alloc (.cells #[.int .i64 A.x0, .int .i64 A.y0, .int .i64 A.x1, .int .i64 A.y1] 23))) := by
    rw [lay_start]
    have hal : Below w2.heap.size w2 (w2.alloc (.cells #[.int .i64 A.x0, .int .i64 A.y0, .int .i64 A.x1, .int .i64 A.y1] 23)) := (Below.refl _ _).alloc (Nat.le_refl _) _
    have hb : Below w.heap.size w (w2.alloc (.cells #[.int .i64 A.x0, .int .i64 A.y0, .int .i64 A.x1, .int .i64 A.y1] 23)) := Rc.via HS2.out.2.2 hal
    have hz := HS2.out.2.2.size
    refine ⟨HS2.out.1.below hal, HS2.out.2.1.below hal, Rc.Has4.new rfl _ _ _ _ _, HO.out.1.below hb, HO.out.2.1.below hb, But.of hb, fun hm => ?_⟩
    have := (HO.out.1.new hm).2
    exact ⟨⟨by omega, by omega, by omega⟩, HO.out.2.2 hm⟩
  clear HS0 HS1 HS2 HO hz1 hz2
  generalize w2.alloc (.cells #[.int .i64 A.x0, .int .i64 A.y0, .int .i64 A.x1, .int .i64 A.y1] 23) = w3 at HLS ⊢
  generalize w2.heap.size = k4 at HLS ⊢
  clear w1 w2
  go_loopg [5] (A.y1 - A.y0).toNat (fun gh v5 wr => ∃ y, A.y0 ≤ y ∧ y ≤ A.y1 ∧ gh = (A.y1 - y).toNat ∧ v5 = .int .i64 y ∧ Ls lo w w.heap.size (w.heap.size + 1) k4 M B A ao n m g off bo bn bm bg boff h (layO A u F y) wr)
  case atStart => exact ⟨A.y0, Int.le_refl _, hAe.2, rfl, rfl, HLS.out⟩
  case round =>
    clear HLS
    obtain ⟨y, hy0, hy1, rfl, rfl, hL⟩ := hrel
    have HL := hid hL
    obtain ⟨r0, r1, r2, r3, rf⟩ := hL.a
    by_cases hlt : y < A.y1
    · obtain ⟨⟨a0, a1, a2, a3, a4⟩, b0, b1, b2, b3⟩ := HAE.out (by omega)
      have hIM : In M A.x0 A.x1 y := ⟨by omega, by omega, by omega, by omega, by omega⟩
      have hIB : In B A.x0 A.x1 y := ⟨by omega, by omega, by omega, by omega, by omega⟩
      have hpM := pos_end ⟨hIM.y0, hIM.y1⟩ hIM.x0 hIM.le hIM.x1
      have hpB := pos_end ⟨hIB.y0, hIB.y1⟩ hIB.x0 hIB.le hIB.x1
      rw [← HN.out.2.1] at hpM
      rw [← HNB.out.2.1] at hpB
      obtain ⟨K, hK⟩ : ∃ K, K = (A.x1 - A.x0).toNat := ⟨_, rfl⟩
      have HK : Hid ((A.x1 - A.x0).toNat = K) := hK.symm
      rw [← hK] at hpM hpB
      have hKx : A.x0 + (K : Int) = A.x1 := by omega
      have hK0 : 0 < K := by omega
      have hm0 : 0 < m := by have := HN.out.2.2.1; omega
      have hbm0 : 0 < bm := by have := HNB.out.2.2.1; omega
      obtain rfl := hL.o.v.addr hm0
      obtain rfl := hL.v.addr hbm0
      obtain ⟨qm, hqm⟩ : ∃ q, q = posN M A.x0 y := ⟨_, rfl⟩
      obtain ⟨qb, hqb⟩ : ∃ q, q = posN B A.x0 y := ⟨_, rfl⟩
      have HI := hid (And.intro hIM (And.intro hIB (And.intro a4 (And.intro hqm.symm (And.intro hqb.symm hm0)))))
      rw [← hqm] at hpM
      rw [← hqb] at hpB
      obtain ⟨p0, p1, p2, p3, p4, pf⟩ := hL.mm
      obtain ⟨q0, q1, q2, q3, q4, qf⟩ := hL.s
      clear hL hIM hIB hqm hqb hK
      go_wp2_with (first
        | (go_at_call 45; with_reducible refine Calls.mono (mrow_of M g off n m A.x0 A.x1 y _ HN.out.1 HN.out.2.1 hn HN.out.2.2.1 HN.out.2.2.2.1 HI.out.1 HI.out.2.2.1) ?_; rintro e w4 ⟨rfl, hb4⟩; rw [HK.out, HI.out.2.2.2.1]; have HL4 := hid (HL.out.below hb4); clear hb4 p0 p1 p2 p3 p4 pf q0 q1 q2 q3 q4 qf r0 r1 r2 r3 rf; obtain ⟨q0, q1, q2, q3, q4, qf⟩ := HL4.out.s; obtain ⟨r0, r1, r2, r3, rf⟩ := HL4.out.a)
        | (go_at_call 45; with_reducible refine Calls.mono (mrow_of B bg boff bn bm A.x0 A.x1 y _ HNB.out.1 HNB.out.2.1 hbn HNB.out.2.2.1 HNB.out.2.2.2.1 HI.out.2.1 HI.out.2.2.1) ?_; rintro e w5 ⟨rfl, hb5⟩; rw [HK.out, HI.out.2.2.2.2.1]; have HL5 := hid (HL4.out.below hb5); clear hb5 q0 q1 q2 q3 q4 qf r0 r1 r2 r3 rf))
      have HL6 : Hid (Ls lo w w.heap.size (w.heap.size + 1) k4 M B A (some ⟨g, off, none⟩) n m g off (some ⟨bg, boff, none⟩) bn bm bg boff h (layG A u F (A.x0 + ((0 : Nat) : Int)) y) w5) := by
        have h1 := HL5.out
        rw [show A.x0 + ((0 : Nat) : Int) = A.x0 by simp, lay_row0]
        exact h1
      clear HL HL4 HL5
      go_loopg [40] K (fun gh v40 wr => ∃ i : Nat, i ≤ K ∧ gh = K - i ∧ v40 = .int .i64 (i : Int) ∧ Ls lo w w.heap.size (w.heap.size + 1) k4 M B A (some ⟨g, off, none⟩) n m g off (some ⟨bg, boff, none⟩) bn bm bg boff h (layG A u F (A.x0 + (i : Int)) y) wr)
      case atStart => exact ⟨0, Nat.zero_le _, rfl, rfl, HL6.out⟩
      case round =>
        clear HL6
        obtain ⟨i, hi, rfl, rfl, hL⟩ := hrel
        have HL := hid hL
        by_cases hil : i < K
        · have hiz : (i : Int) < (K : Int) := by omega
          obtain ⟨p, hp⟩ : ∃ p, p = h (A.x0 + (i : Int)) y := ⟨_, rfl⟩
          obtain ⟨q, hq⟩ : ∃ q, q = F (A.x0 + (i : Int)) y := ⟨_, rfl⟩
          have hbA : hasB A (A.x0 + (i : Int)) y = true := hasB_iff'.2 (by omega)
          have hbM : hasB M (A.x0 + (i : Int)) y = true := hasB_iff'.2 (by omega)
          have hbB : hasB B (A.x0 + (i : Int)) y = true := hasB_iff'.2 (by omega)
          have hposM : posN M (A.x0 + (i : Int)) y = qm + i := by rw [← HI.out.2.2.2.1]; unfold posN; omega
          have hposB : posN B (A.x0 + (i : Int)) y = qb + i := by rw [← HI.out.2.2.2.2.1]; unfold posN; omega
          have hpix : (img B h)[qb + i]? = some p := by rw [hp, ← hposB]; exact at_img h hbB
          have hqix : (img M (layG A u F (A.x0 + (i : Int)) y))[qm + i]? = some q := by rw [hq, ← hposM, at_img _ hbM, lay_at]
          have HPQ : Hid (byteX ⟨p.c0, p.c1, p.c2, p.c3⟩ ∧ byteX ⟨q.c0, q.c1, q.c2, q.c3⟩) := by rw [hp, hq]; exact ⟨HBY.out.2 _ _, HBY.out.1 _ _⟩
          have HST : Hid (putG (layG A u F (A.x0 + (i : Int)) y) y (A.x0 + (i : Int)) (A.x0 + (i : Int) + 1) (fun _ => overX ⟨p.c0, p.c1, p.c2, p.c3⟩ ⟨q.c0, q.c1, q.c2, q.c3⟩) = layG A u F (A.x0 + ((i + 1 : Nat) : Int)) y) := by
            have h1 := lay_step (u := u) (F := F) hbA
            rw [HU.out _ _ hbB, ← hp, ← hq] at h1
            rw [show A.x0 + ((i + 1 : Nat) : Int) = A.x0 + (i : Int) + 1 by omega]
            exact h1
          have HPX : Hid (posN M (A.x0 + (i : Int)) y = qm + i ∧ In M (A.x0 + (i : Int)) (A.x0 + (i : Int) + 1) y) := ⟨hposM, by omega, by omega, by omega, by omega, by omega⟩
          have hqix' := hid hqix
          obtain ⟨c0, c1, c2, c3⟩ := vx_cells hL.v hpix
          have hqm : qm + i < n := by omega
          have hqb : qb + i < bn := by omega
          clear hL hp hq hposM hposB hpix hqix hbA hbM hbB
          go_wp2
          have HL1 : Hid (Ls lo w w.heap.size (w.heap.size + 1) k4 M B A (some ⟨g, off, none⟩) n m g off (some ⟨bg, boff, none⟩) bn bm bg boff h (layG A u F (A.x0 + (i : Int)) y) (wr.alloc (.cells #[.int .u8 p.c0, .int .u8 p.c1, .int .u8 p.c2, .int .u8 p.c3] 28)) ∧ Rc.Has4 (wr.alloc (.cells #[.int .u8 p.c0, .int .u8 p.c1, .int .u8 p.c2, .int .u8 p.c3] 28)) wr.heap.size (.int .u8 p.c0) (.int .u8 p.c1) (.int .u8 p.c2) (.int .u8 p.c3)) := ⟨HL.out.below ((Below.refl _ _).alloc (Nat.le_refl _) _), Rc.Has4.new rfl _ _ _ _ _⟩
          clear c0 c1 c2 c3 HL
          generalize wr.alloc (.cells #[.int .u8 p.c0, .int .u8 p.c1, .int .u8 p.c2, .int .u8 p.c3] 28) = wr1 at HL1 ⊢
          generalize wr.heap.size = k8 at HL1 ⊢
          obtain ⟨e0, e1, e2, e3, ef⟩ := HL1.out.2
          obtain ⟨⟨c0, c1, c2, c3⟩, z0, z1, z2, z3⟩ := ox_cells HL1.out.1.o hqix'.out
          go_region_with (go_at_call 77; with_reducible refine Calls.mono (over4 p.c0 p.c1 p.c2 p.c3 q.c0 q.c1 q.c2 q.c3 _ HPQ.out.1 HPQ.out.2) ?_; rintro e w6 ⟨rfl, hb6⟩; have HL2 := hid (HL1.out.1.below (Rc.via (Below.refl _ _).drew hb6)); clear hb6 c0 c1 c2 c3 z0 z1 z2 z3 e0 e1 e2 e3 ef; obtain ⟨⟨c0, c1, c2, c3⟩, z0, z1, z2, z3⟩ := ox_cells HL2.out.o hqix'.out)
          all_goals
            go_wp2
            go_roundg (K - (i + 1))
            case measure => omega
            case rel =>
              obtain ⟨h1, h2⟩ := ox_pix HL2.out.o HPX.out.1 HPX.out.2 (overX ⟨p.c0, p.c1, p.c2, p.c3⟩ ⟨q.c0, q.c1, q.c2, q.c3⟩)
              rw [HST.out] at h1
              exact ⟨i + 1, by omega, rfl, by simp, HL2.out.to HI.out.2.2.2.2.2 h2 h1⟩
        · obtain rfl : K = i := by omega
          have HL2 : Hid (Ls lo w w.heap.size (w.heap.size + 1) k4 M B A (some ⟨g, off, none⟩) n m g off (some ⟨bg, boff, none⟩) bn bm bg boff h (layO A u F (y + 1)) wr) := by
            have h1 := HL.out
            rw [hKx, lay_row1] at h1
            exact h1
          clear hL HL
          go_wp2
          go_roundg (A.y1 - (y + 1)).toNat
          case measure => omega
          case rel => exact ⟨y + 1, by omega, by omega, rfl, rfl, HL2.out⟩
    · obtain rfl : y = A.y1 := by omega
      clear hL
      go_wp2
      refine bodyPost_end (v := .tuple #[]) (by simp [results, Try.results57, go_sem]) rfl ⟨rfl, HL.out.o, HL.out.but⟩
end Go.Proofs.Ytfgfgfmimejpdaa
/- Shadows, by the code: a contract. -/
namespace Go.Proofs.Ytfgfgfmimejpdaa
open Num Go.RowKit
set_option linter.unusedVariables false
set_option linter.unusedSimpArgs false

/-- what a shadow is made of stands -/
structure Sw (w : World) (B D : R) (p : X) (ao : Option Addr) (n m : Nat) (wr : World) : Prop where
  b : Has5 wr w.heap.size B ao n m
  d : Rc.Has4 wr (w.heap.size + 1) (.int .i64 D.x0) (.int .i64 D.y0) (.int .i64 D.x1) (.int .i64 D.y1)
  q : Rc.Has4 wr (w.heap.size + 1 + 1) (.int .u8 p.c0) (.int .u8 p.c1) (.int .u8 p.c2) (.int .u8 p.c3)
  z : Has5 wr (w.heap.size + 1 + 1 + 1) ⟨0, 0, 0, 0⟩ none 0 0
  low : Below w.heap.size w wr
  sz : (w.heap.size + 1 + 1 + 1 + 1) ≤ wr.heap.size
theorem Sw.below {w : World} {B D : R} {p : X} {ao : Option Addr} {n m : Nat} {wr wr' : World} (x : Sw w B D p ao n m wr) (hb : Below wr.heap.size wr wr') : Sw w B D p ao n m wr' := ⟨x.b.below hb, x.d.below hb, x.q.below hb, x.z.below hb, Rc.via x.low hb, Nat.le_trans x.sz hb.size⟩
theorem Sw.but {w : World} {B D : R} {p : X} {ao : Option Addr} {n m : Nat} {wr wr' : World} (x : Sw w B D p ao n m wr) {j : Nat} (hb : But j wr wr') (hj : (w.heap.size + 1 + 1 + 1 + 1) ≤ j) : Sw w B D p ao n m wr' := ⟨x.b.but hb (by omega), has4_but x.d hb (by omega), has4_but x.q hb (by omega), x.z.but hb (by omega), x.low.trans (hb.low (by omega) x.low.size), Nat.le_trans x.sz hb.size⟩
theorem sw_new (w : World) (B D : R) (p : X) (ao : Option Addr) (n m : Nat) : Sw w B D p ao n m (((((w.alloc (.cells #[.int .i64 B.x0, .int .i64 B.y0, .int .i64 B.x1, .int .i64 B.y1, .slice ao n m] 26)).alloc (.cells #[.int .i64 D.x0, .int .i64 D.y0, .int .i64 D.x1, .int .i64 D.y1] 23)).alloc (.cells #[.int .u8 p.c0, .int .u8 p.c1, .int .u8 p.c2, .int .u8 p.c3] 28)).alloc (.cells #[.int .i64 0, .int .i64 0, .int .i64 0, .int .i64 0, .slice none 0 0] 26))) := ⟨(((Has5.new rfl _ _ _ _ _ _ _ _).alloc _).alloc _).alloc _, ((Rc.Has4.new (by simp) _ _ _ _ _).alloc _).alloc _, (Rc.Has4.new (by simp) _ _ _ _ _).alloc _, Has5.new (by simp) _ _ _ _ _ _ _ _, ((((Below.refl _ _).alloc (Nat.le_refl _) _).alloc (by simp) _).alloc (by simp; omega) _).alloc (by simp; omega) _, by simp⟩
theorem sw_rect {w : World} {B D : R} {p : X} {ao : Option Addr} {n m : Nat} {wr : World} (x : Sw w B D p ao n m wr) : Sw w B D p ao n m (wr.alloc (.cells #[.int .i64 0, .int .i64 0, .int .i64 0, .int .i64 0] 23)) ∧ (w.heap.size + 1 + 1 + 1 + 1) ≤ wr.heap.size ∧ Rc.Has4 (wr.alloc (.cells #[.int .i64 0, .int .i64 0, .int .i64 0, .int .i64 0] 23)) wr.heap.size (.int .i64 0) (.int .i64 0) (.int .i64 0) (.int .i64 0) := ⟨x.below ((Below.refl _ _).alloc (Nat.le_refl _) _), x.sz, Rc.Has4.new rfl _ _ _ _ _⟩
theorem sw_buf {w : World} {B D : R} {p : X} {ao : Option Addr} {n m : Nat} {wr : World} (x : Sw w B D p ao n m wr) : Sw w B D p ao n m (wr.alloc (.cells #[.int .i64 0, .int .i64 0, .int .i64 0, .int .i64 0, .slice none 0 0] 26)) ∧ (w.heap.size + 1 + 1 + 1 + 1) ≤ wr.heap.size ∧ Has5 (wr.alloc (.cells #[.int .i64 0, .int .i64 0, .int .i64 0, .int .i64 0, .slice none 0 0] 26)) wr.heap.size ⟨0, 0, 0, 0⟩ none 0 0 := ⟨x.below ((Below.refl _ _).alloc (Nat.le_refl _) _), x.sz, Has5.new rfl _ _ _ _ _ _ _ _⟩
/-- the shadow of a buffer -/
def shadX (B : R) (f : Int → Int → X) (dx dy : Int) (rx ry : Nat) (p : X) (x y : Int) : X := overX (atX B f x y) (scaleX p (softX B f dx dy rx ry x y).c3)
theorem soft_byte {B : R} {f : Int → Int → X} (hb : ∀ x y, byteX (f x y)) (dx dy : Int) (rx ry : Nat) (x y : Int) : byteX (softX B f dx dy rx ry x y) := blur_byte (at_byte hb) rx ry _ _
theorem scale4 (p : X) (k : Int) (w : World) (hp : byteX p) (hk : 0 ≤ k ∧ k ≤ 255) : Calls Try.prog 56 #[.agg #[.int .u8 p.c0, .int .u8 p.c1, .int .u8 p.c2, .int .u8 p.c3], .int .u8 k] w fun e w' => e = .returned (.agg #[.int .u8 (scaleX p k).c0, .int .u8 (scaleX p k).c1, .int .u8 (scaleX p k).c2, .int .u8 (scaleX p k).c3]) ∧ Below w.heap.size w w' := scale_any p k w hp hk
theorem refScale4 (p : X) (k : Int) (w : World) (hp : byteX p) (hk : 0 ≤ k ∧ k ≤ 255) : Calls Try.prog 59 #[.agg #[.int .u8 p.c0, .int .u8 p.c1, .int .u8 p.c2, .int .u8 p.c3], .int .u8 k] w fun e w' => e = .returned (.agg #[.int .u8 (scaleX p k).c0, .int .u8 (scaleX p k).c1, .int .u8 (scaleX p k).c2, .int .u8 (scaleX p k).c3]) ∧ Below w.heap.size w w' := refScale_any p k w hp hk
theorem ok_cut (a b c d : Int) : Ok (cutR a b c d) := by
  unfold cutR
  apply ok_orN
  unfold Ok cutN mx mn
  dsimp only
  omega
theorem ok_grow (D : R) (a b c d : Int) : Ok (grow D a b c d) := by
  unfold grow
  split
  · exact ok_nil
  · exact ok_cut _ _ _ _
theorem ok_moveR (D : R) (a b : Int) : Ok (moveR D a b) := by
  unfold moveR
  split
  · exact ok_nil
  · exact ok_cut _ _ _ _
theorem ok_buf {B : R} {n : Nat} (h : bufB B n = true) : Ok B := by
  rcases buf_cases h with ⟨e1, e2, -⟩ | ⟨e1, e2, e3⟩
  · rw [e2]; exact ok_nil
  · exact ok_of_right e2
theorem ox_half {lo : Nat} {w : World} {ao : Option Addr} {n m g off : Nat} {l : List X} (h : Ox lo w ao n m g off l) (P : Nat → Prop) (hP : 0 < m → P g) (hf : ∀ k, w.heap.size ≤ k → P k) : ∃ g', Ox lo w ao n m g' off l ∧ P g' := by
  rcases Nat.eq_zero_or_pos m with hm | hm
  · subst hm
    have h0 : n = 0 := by have := h.v.le; omega
    have hl : flat l = [] := List.length_eq_zero_iff.1 (by have := h.v.len; omega)
    refine ⟨w.heap.size, ⟨⟨h.v.len, h.v.le, h.v.max, fun hc => absurd hc (by omega), ?_⟩, fun hc => absurd hc (by omega), fun j hj => absurd hj (by omega)⟩, hf _ (Nat.le_refl _)⟩
    rw [hl]
    exact lies_nil _ _ _
  · exact ⟨g, h, hP hm⟩
theorem ne_pre {w : World} {k eg n m : Nat} {Z : R} {ao : Option Addr} (h : Has5 w k Z ao n m) (hg : w.heap.size ≤ eg) : k ≠ eg := by have := h.lt; omega
theorem ox_px {lo : Nat} {w : World} {ao : Option Addr} {n m g off : Nat} {l : List X} (h : Ox lo w ao n m g off l) {i : Nat} {p : X} (hp : l[i]? = some p) :
    (w.cell? ⟨g, off + i * 4, none⟩ = some (.int .u8 p.c0) ∧ w.cell? ⟨g, off + i * 4 + 1, none⟩ = some (.int .u8 p.c1) ∧ w.cell? ⟨g, off + i * 4 + 2, none⟩ = some (.int .u8 p.c2) ∧ w.cell? ⟨g, off + i * 4 + 3, none⟩ = some (.int .u8 p.c3)) ∧ (w.frozen? ⟨g, off + i * 4, none⟩ = false ∧ w.frozen? ⟨g, off + i * 4 + 1, none⟩ = false ∧ w.frozen? ⟨g, off + i * 4 + 2, none⟩ = false ∧ w.frozen? ⟨g, off + i * 4 + 3, none⟩ = false) := by
  have h1 := ox_cells h (q := 0) (i := i) (by rw [Nat.zero_add]; exact hp)
  rw [show off + 0 * 4 + i * 4 = off + i * 4 by omega] at h1
  exact h1
/-- a list of which the first are changed -/
def halfL (l : List X) (s : X → X) (i : Nat) : List X := (l.map s).take i ++ l.drop i
theorem half_len (l : List X) (s : X → X) (i : Nat) (hi : i ≤ l.length) : (halfL l s i).length = l.length := by
  unfold halfL
  rw [List.length_append, List.length_take, List.length_drop, List.length_map]
  omega
theorem half_at {l : List X} {s : X → X} {i : Nat} {r : X} (h : l[i]? = some r) : (halfL l s i)[i]? = some r := by
  have hi : i < l.length := (List.getElem?_eq_some_iff.1 h).1
  unfold halfL
  rw [List.getElem?_append_right (by rw [List.length_take, List.length_map]; omega), List.length_take, List.length_map, List.getElem?_drop]
  rw [show i + (i - min i l.length) = i by omega]
  exact h
theorem half_step {l : List X} {s : X → X} {i : Nat} {r : X} (h : l[i]? = some r) : setL (halfL l s i) i [s r] = halfL l s (i + 1) := by
  have hi : i < l.length := (List.getElem?_eq_some_iff.1 h).1
  have ht : ((l.map s).take i).length = i := by rw [List.length_take, List.length_map]; omega
  unfold setL halfL
  have e1 : ((l.map s).take i ++ l.drop i).take i = (l.map s).take i := by
    rw [List.take_append_of_le_length (by omega), List.take_of_length_le (by omega)]
  have e2 : ((l.map s).take i ++ l.drop i).drop (i + [s r].length) = l.drop (i + 1) := by
    rw [List.drop_append, ht, List.drop_eq_nil_of_le (by omega), List.nil_append, List.drop_drop]
    congr 1
    simp
  rw [e1, e2, List.take_add_one, List.getElem?_map, h]
  simp
theorem img_mem {Q : R} {G : Int → Int → X} {r : X} (h : r ∈ img Q G) : ∃ x y, r = G x y := by
  unfold img at h
  obtain ⟨i, -, hi⟩ := List.mem_map.1 h
  exact ⟨_, _, hi.symm⟩
theorem half_0 (l : List X) (s : X → X) : halfL l s 0 = l := by unfold halfL; simp
theorem half_all (l : List X) (s : X → X) (n : Nat) (h : l.length ≤ n) : halfL l s n = l.map s := by
  unfold halfL
  rw [List.take_of_length_le (by rw [List.length_map]; exact h), List.drop_eq_nil_of_le h, List.append_nil]
/-- with the area -/
structure Sy (w : World) (B D : R) (p : X) (ao : Option Addr) (n m : Nat) (ka : Nat) (A : R) (wr : World) : Prop where
  x : Sw w B D p ao n m wr
  a : Rc.Has4 wr ka (.int .i64 A.x0) (.int .i64 A.y0) (.int .i64 A.x1) (.int .i64 A.y1)
  k : (w.heap.size + 1 + 1 + 1 + 1) ≤ ka
theorem Sy.below {w : World} {B D : R} {p : X} {ao : Option Addr} {n m : Nat} {ka : Nat} {A : R} {wr wr' : World} (x : Sy w B D p ao n m ka A wr) (hb : Below wr.heap.size wr wr') : Sy w B D p ao n m ka A wr' := ⟨x.x.below hb, x.a.below hb, x.k⟩
theorem Sy.but {w : World} {B D : R} {p : X} {ao : Option Addr} {n m : Nat} {ka : Nat} {A : R} {wr wr' : World} (x : Sy w B D p ao n m ka A wr) {j : Nat} (hb : But j wr wr') (hj : (w.heap.size + 1 + 1 + 1 + 1) ≤ j) (hk : ka ≠ j) : Sy w B D p ao n m ka A wr' := ⟨x.x.but hb hj, has4_but x.a hb hk, x.k⟩
theorem sy_buf {w : World} {B D : R} {p : X} {ao : Option Addr} {n m : Nat} {ka : Nat} {A : R} {wr : World} (x : Sy w B D p ao n m ka A wr) : Sy w B D p ao n m ka A (wr.alloc (.cells #[.int .i64 0, .int .i64 0, .int .i64 0, .int .i64 0, .slice none 0 0] 26)) ∧ (w.heap.size + 1 + 1 + 1 + 1) ≤ wr.heap.size ∧ Has5 (wr.alloc (.cells #[.int .i64 0, .int .i64 0, .int .i64 0, .int .i64 0, .slice none 0 0] 26)) wr.heap.size ⟨0, 0, 0, 0⟩ none 0 0 ∧ ka ≠ wr.heap.size := ⟨x.below ((Below.refl _ _).alloc (Nat.le_refl _) _), x.x.sz, Has5.new rfl _ _ _ _ _ _ _ _, Nat.ne_of_lt (World.block_lt_of_cell? wr ⟨ka, 0, none⟩ x.a.c0)⟩
/-- while pixels are scaled -/
structure Sl (w : World) (B D : R) (p : X) (ao : Option Addr) (n m : Nat) (k16 : Nat) (eo : Option Addr) (en em eg eoff : Nat) (l : List X) (wr : World) : Prop where
  x : Sw w B D p ao n m wr
  h : Has5 wr k16 (orN D) eo en em
  o : Ox (w.heap.size + 1 + 1 + 1 + 1) wr eo en em eg eoff l
  k : (w.heap.size + 1 + 1 + 1 + 1) ≤ k16
  g : (w.heap.size + 1 + 1 + 1 + 1) ≤ eg
  ne : k16 ≠ eg
theorem Sl.below {w : World} {B D : R} {p : X} {ao : Option Addr} {n m : Nat} {k16 : Nat} {eo : Option Addr} {en em eg eoff : Nat} {l : List X} {wr wr' : World} (x : Sl w B D p ao n m k16 eo en em eg eoff l wr) (hb : Below wr.heap.size wr wr') : Sl w B D p ao n m k16 eo en em eg eoff l wr' := ⟨x.x.below hb, x.h.below hb, x.o.below hb, x.k, x.g, x.ne⟩
theorem Sl.to {w : World} {B D : R} {p : X} {ao : Option Addr} {n m : Nat} {k16 : Nat} {eo : Option Addr} {en em eg eoff : Nat} {l l' : List X} {wr wr' : World} (x : Sl w B D p ao n m k16 eo en em eg eoff l wr) (hb : But eg wr wr') (ho : Ox (w.heap.size + 1 + 1 + 1 + 1) wr' eo en em eg eoff l') : Sl w B D p ao n m k16 eo en em eg eoff l' wr' := ⟨x.x.but hb x.g, x.h.but hb x.ne, ho, x.k, x.g, x.ne⟩

set_option maxRecDepth 100000 in
set_option maxHeartbeats 8000000 in
theorem shadow_any (B : R) (ao : Option Addr) (n m g off : Nat) (f : Int → Int → X) (D : R) (dx dy : Int) (rx ry : Nat) (p : X) (w : World) (hn : n ≤ 5000) (hB : bufB B n = true) (hV : Vx w ao n m g off (img B f)) (hb : ∀ x y, byteX (f x y)) (hD : Half D) (ha : area (grow D (rx : Int) (ry : Int) (rx : Int) (ry : Int)) ≤ 5000) (hx : rx ≤ 255) (hy : ry ≤ 255) (hdx : -33554432 ≤ dx ∧ dx ≤ 33554432) (hdy : -33554432 ≤ dy ∧ dy ≤ 33554432) (hp : byteX p) :
    Calls Try.prog 27 #[.agg #[.int .i64 B.x0, .int .i64 B.y0, .int .i64 B.x1, .int .i64 B.y1, .slice ao n m], .agg #[.int .i64 D.x0, .int .i64 D.y0, .int .i64 D.x1, .int .i64 D.y1], .int .i64 dx, .int .i64 dy, .int .i64 (rx : Int), .int .i64 (ry : Int), .agg #[.int .u8 p.c0, .int .u8 p.c1, .int .u8 p.c2, .int .u8 p.c3]] w fun e w' => RetB w.heap.size w' e (orN D) (img (orN D) (shadX B f dx dy rx ry p)) ∧ Below w.heap.size w w' := by
  obtain ⟨Gr, hGr⟩ : ∃ X, X = grow D (rx : Int) (ry : Int) (rx : Int) (ry : Int) := ⟨_, rfl⟩
  obtain ⟨Mv, hMv⟩ : ∃ X, X = moveR B dx dy := ⟨_, rfl⟩
  obtain ⟨A, hA⟩ : ∃ X, X = meet Gr Mv := ⟨_, rfl⟩
  have HGR : Hid (grow ⟨D.x0, D.y0, D.x1, D.y1⟩ (rx : Int) (ry : Int) (rx : Int) (ry : Int) = Gr) := hGr.symm
  have HMV : Hid (moveR ⟨B.x0, B.y0, B.x1, B.y1⟩ dx dy = Mv) := hMv.symm
  have HMM : Hid (meet ⟨Gr.x0, Gr.y0, Gr.x1, Gr.y1⟩ ⟨Mv.x0, Mv.y0, Mv.x1, Mv.y1⟩ = A) := hA.symm
  have HS : Hid (img (orN D) (blurG (atX (orN A) (fun x y => atX B f (x - dx) (y - dy))) rx ry) = img (orN D) (softX B f dx dy rx ry)) := hid (by rw [hA, hGr, hMv]; exact soft_img hB hn hD hx hy hdx hdy)
  have hAo : Ok A := by rw [hA, hGr, hMv]; exact ok_meet (ok_grow _ _ _ _ _) (ok_moveR _ _ _)
  have hAa : area A ≤ 5000 := by rw [hA]; exact Int.le_trans (meet_l _ _) (by rw [hGr]; exact ha)
  have HAO : Hid (Ok A ∧ area A ≤ 5000 ∧ bufB (orN A) (wid (orN A) * hei (orN A)) = true ∧ wid (orN A) * hei (orN A) ≤ 5000) := hid ⟨hAo, hAa, (buf_new hAo hAa).1, (buf_new hAo hAa).2.1⟩
  have HC : Hid ((0 ≤ (rx : Int) ∧ (rx : Int) ≤ 4398046511104) ∧ (0 ≤ (ry : Int) ∧ (ry : Int) ≤ 4398046511104)) := hid ⟨⟨by omega, by omega⟩, by omega, by omega⟩
  have HDX : Hid ((-4398046511104 ≤ dx ∧ dx ≤ 4398046511104) ∧ (-4398046511104 ≤ dy ∧ dy ≤ 4398046511104)) := hid ⟨⟨by omega, by omega⟩, by omega, by omega⟩
  have HD := hid (And.intro hD (And.intro ha (And.intro hx hy)))
  have HB := hid (And.intro hn (And.intro hB trivial))
  have HV := hid hV
  have HBY : Hid (∀ x y, byteX ((fun x y => atX B f (x - dx) (y - dy)) x y)) := hid (fun x y => at_byte hb _ _)
  have HBB := hid (And.intro hb hp)
  have hgr : Ok D := hD.ok
  have hag : area D ≤ 5000 := Int.le_trans (grow_area hD hx hy) ha
  have HQ : Hid (bufB (orN D) (wid (orN D) * hei (orN D)) = true ∧ wid (orN D) * hei (orN D) ≤ 5000) := hid ⟨(buf_new hgr hag).1, (buf_new hgr hag).2.1⟩
  have HX : Hid (Sw w B D p ao n m (((((w.alloc (.cells #[.int .i64 B.x0, .int .i64 B.y0, .int .i64 B.x1, .int .i64 B.y1, .slice ao n m] 26)).alloc (.cells #[.int .i64 D.x0, .int .i64 D.y0, .int .i64 D.x1, .int .i64 D.y1] 23)).alloc (.cells #[.int .u8 p.c0, .int .u8 p.c1, .int .u8 p.c2, .int .u8 p.c3] 28)).alloc (.cells #[.int .i64 0, .int .i64 0, .int .i64 0, .int .i64 0, .slice none 0 0] 26)))) := sw_new w B D p ao n m
  clear hGr hMv hA hAo hAa hD ha hx hy hdx hdy hn hB hV hb hp hgr hag
  go_enter Try.func27, Try.ntmps27
  go_wp2
  generalize (((((w.alloc (.cells #[.int .i64 B.x0, .int .i64 B.y0, .int .i64 B.x1, .int .i64 B.y1, .slice ao n m] 26)).alloc (.cells #[.int .i64 D.x0, .int .i64 D.y0, .int .i64 D.x1, .int .i64 D.y1] 23)).alloc (.cells #[.int .u8 p.c0, .int .u8 p.c1, .int .u8 p.c2, .int .u8 p.c3] 28)).alloc (.cells #[.int .i64 0, .int .i64 0, .int .i64 0, .int .i64 0, .slice none 0 0] 26))) = w0 at HX ⊢
  go_cut [15] (fun v15 wx => ∃ ka, v15 = .pointer (some ⟨ka, 0, none⟩) ∧ Sy w B D p ao n m ka A wx)
  case first =>
    replace HX := hid (HX.out.below (Below.refl _ _).drew)
    refine wp_region_held_drew (S := (fun w' => w'.cell? ⟨w.heap.size, 0, none⟩ = some (.int .i64 B.x0) ∧ w'.cell? ⟨w.heap.size, 1, none⟩ = some (.int .i64 B.y0) ∧ w'.cell? ⟨w.heap.size, 2, none⟩ = some (.int .i64 B.x1) ∧ w'.cell? ⟨w.heap.size, 3, none⟩ = some (.int .i64 B.y1) ∧ w'.cell? ⟨w.heap.size, 4, none⟩ = some (.slice ao n m) ∧ w'.cell? ⟨(w.heap.size + 1), 0, none⟩ = some (.int .i64 D.x0) ∧ w'.cell? ⟨(w.heap.size + 1), 1, none⟩ = some (.int .i64 D.y0) ∧ w'.cell? ⟨(w.heap.size + 1), 2, none⟩ = some (.int .i64 D.x1) ∧ w'.cell? ⟨(w.heap.size + 1), 3, none⟩ = some (.int .i64 D.y1))) (by kernel_rfl) ?_ (fun hHeld => ?_)
    · exact ⟨HX.out.b.c0, HX.out.b.c1, HX.out.b.c2, HX.out.b.c3, HX.out.b.c4, HX.out.d.c0, HX.out.d.c1, HX.out.d.c2, HX.out.d.c3⟩
    generalize w0.drew = wd at HX hHeld ⊢
    refine wpAnyH_take (i := 0) (oi := { dst := some 19, op := Op.load 23 (Operand.tmp 8), type := 23, pos := "move.go:45", after := #[], guard := none }) (v := ?_) rfl (by kernel_rfl) (by kernel_rfl) (by kernel_rfl) (fun _ _ _ h => h) (Or.inl ⟨by rfl, ?hy⟩) (by assumption) ?_
    case hy => (intro w hSw; (try dsimp only at hSw); go_simp; first | done | with_reducible rfl)
    try simp only [Act.put, List.setIfInBounds_toArray, List.set_cons_zero, List.set_cons_succ]
    refine wpAnyH_take (i := 1) (oi := { dst := some 20, op := Op.move (Operand.tmp 4), type := 3, pos := "move.go:45", after := #[], guard := none }) (v := ?_) rfl (by kernel_rfl) (by kernel_rfl) (by kernel_rfl) (fun _ _ _ h => h) (Or.inl ⟨by rfl, ?hy⟩) (by assumption) ?_
    case hy => (intro w hSw; (try dsimp only at hSw); go_simp; first | done | with_reducible rfl)
    try simp only [Act.put, List.setIfInBounds_toArray, List.set_cons_zero, List.set_cons_succ]
    refine wpAnyH_take (i := 2) (oi := { dst := some 21, op := Op.move (Operand.tmp 5), type := 3, pos := "move.go:45", after := #[], guard := none }) (v := ?_) rfl (by kernel_rfl) (by kernel_rfl) (by kernel_rfl) (fun _ _ _ h => h) (Or.inl ⟨by rfl, ?hy⟩) (by assumption) ?_
    case hy => (intro w hSw; (try dsimp only at hSw); go_simp; first | done | with_reducible rfl)
    try simp only [Act.put, List.setIfInBounds_toArray, List.set_cons_zero, List.set_cons_succ]
    refine wpAnyH_take (i := 3) (oi := { dst := some 22, op := Op.move (Operand.tmp 4), type := 3, pos := "move.go:45", after := #[], guard := none }) (v := ?_) rfl (by kernel_rfl) (by kernel_rfl) (by kernel_rfl) (fun _ _ _ h => h) (Or.inl ⟨by rfl, ?hy⟩) (by assumption) ?_
    case hy => (intro w hSw; (try dsimp only at hSw); go_simp; first | done | with_reducible rfl)
    try simp only [Act.put, List.setIfInBounds_toArray, List.set_cons_zero, List.set_cons_succ]
    refine wpAnyH_take (i := 4) (oi := { dst := some 23, op := Op.move (Operand.tmp 5), type := 3, pos := "move.go:45", after := #[], guard := none }) (v := ?_) rfl (by kernel_rfl) (by kernel_rfl) (by kernel_rfl) (fun _ _ _ h => h) (Or.inl ⟨by rfl, ?hy⟩) (by assumption) ?_
    case hy => (intro w hSw; (try dsimp only at hSw); go_simp; first | done | with_reducible rfl)
    try simp only [Act.put, List.setIfInBounds_toArray, List.set_cons_zero, List.set_cons_succ]
    refine wpAnyH_take (i := 6) (oi := { dst := some 25, op := Op.fieldAddr 26 (Operand.tmp 7) 0, type := 0, pos := "move.go:45", after := #[], guard := none }) (v := ?_) rfl (by kernel_rfl) (by kernel_rfl) (by kernel_rfl) (fun _ _ _ h => h) (Or.inl ⟨by rfl, ?hy⟩) (by assumption) ?_
    case hy => (intro w hSw; (try dsimp only at hSw); go_simp; first | done | with_reducible rfl)
    try simp only [Act.put, List.setIfInBounds_toArray, List.set_cons_zero, List.set_cons_succ]
    refine wpAnyH_take (i := 7) (oi := { dst := some 26, op := Op.load 23 (Operand.tmp 25), type := 23, pos := "move.go:45", after := #[{ on := 6, ground := Ground.data }], guard := none }) (v := ?_) rfl (by kernel_rfl) (by kernel_rfl) (by kernel_rfl) (fun _ _ _ h => h) (Or.inl ⟨by rfl, ?hy⟩) (by assumption) ?_
    case hy => (intro w hSw; (try dsimp only at hSw); go_simp; first | done | with_reducible rfl)
    try simp only [Act.put, List.setIfInBounds_toArray, List.set_cons_zero, List.set_cons_succ]
    refine wpAnyH_take (i := 8) (oi := { dst := some 27, op := Op.move (Operand.tmp 2), type := 3, pos := "move.go:45", after := #[], guard := none }) (v := ?_) rfl (by kernel_rfl) (by kernel_rfl) (by kernel_rfl) (fun _ _ _ h => h) (Or.inl ⟨by rfl, ?hy⟩) (by assumption) ?_
    case hy => (intro w hSw; (try dsimp only at hSw); go_simp; first | done | with_reducible rfl)
    try simp only [Act.put, List.setIfInBounds_toArray, List.set_cons_zero, List.set_cons_succ]
    refine wpAnyH_take (i := 9) (oi := { dst := some 28, op := Op.move (Operand.tmp 3), type := 3, pos := "move.go:45", after := #[], guard := none }) (v := ?_) rfl (by kernel_rfl) (by kernel_rfl) (by kernel_rfl) (fun _ _ _ h => h) (Or.inl ⟨by rfl, ?hy⟩) (by assumption) ?_
    case hy => (intro w hSw; (try dsimp only at hSw); go_simp; first | done | with_reducible rfl)
    try simp only [Act.put, List.setIfInBounds_toArray, List.set_cons_zero, List.set_cons_succ]
    refine wpAnyH_ready (rs := [5, 12]) (by kernel_rfl) (by simp) ?_
    refine AllReadyH.cons (o := { dst := some 24, op := Op.call { callee := Callee.value (Operand.func 54), args := #[Operand.tmp 19, Operand.tmp 20, Operand.tmp 21, Operand.tmp 22, Operand.tmp 23], argTypes := #[23, 3, 3, 3, 3] }, type := 23, pos := "move.go:45", after := #[{ on := 0, ground := Ground.data }, { on := 1, ground := Ground.data }, { on := 2, ground := Ground.data }, { on := 3, ground := Ground.data }, { on := 4, ground := Ground.data }], guard := none }) rfl (fun K hK => ?_) (AllReadyH.cons (o := { dst := some 15, op := Op.alloc 23, type := 0, pos := "move.go:45", after := #[], guard := none }) rfl (fun K hK => ?_) AllReadyH.nil)
    · go_simp
      (go_at_call 54; with_reducible refine Calls.mono (Rc.grow_any D.x0 D.y0 D.x1 D.y1 (rx : Int) (ry : Int) (rx : Int) (ry : Int) _ HD.out.1.ok HC.out.1 HC.out.2 HC.out.1 HC.out.2) ?_; rintro e wc ⟨rfl, hb⟩; rw [HGR.out]; replace HX := hid (HX.out.below hb); (try (replace HA := hid (And.intro HA.out.1 (HA.out.2.below hb)); clear y0 y1 y2 y3 yf; obtain ⟨y0, y1, y2, y3, yf⟩ := HA.out.2)); clear hb)
      go_wp2_with fail
      refine hK.out _ _ ?_ (fun hHeld => ?_)
      · exact ⟨HX.out.b.c0, HX.out.b.c1, HX.out.b.c2, HX.out.b.c3, HX.out.b.c4, HX.out.d.c0, HX.out.d.c1, HX.out.d.c2, HX.out.d.c3⟩
      clear hK K
      try simp only [Act.put, List.setIfInBounds_toArray, List.set_cons_zero, List.set_cons_succ]
      refine wpAnyH_ready (rs := [10, 12]) (by kernel_rfl) (by simp) ?_
      refine AllReadyH.cons (o := { dst := some 29, op := Op.call { callee := Callee.value (Operand.func 43), args := #[Operand.tmp 26, Operand.tmp 27, Operand.tmp 28], argTypes := #[23, 3, 3] }, type := 23, pos := "move.go:45", after := #[{ on := 7, ground := Ground.data }, { on := 8, ground := Ground.data }, { on := 9, ground := Ground.data }, { on := 5, ground := Ground.chain }], guard := none }) rfl (fun K hK => ?_) (AllReadyH.cons (o := { dst := some 15, op := Op.alloc 23, type := 0, pos := "move.go:45", after := #[], guard := none }) rfl (fun K hK => ?_) AllReadyH.nil)
      · go_simp
        (go_at_call 43; with_reducible refine Calls.mono (Rc.move_any B.x0 B.y0 B.x1 B.y1 dx dy _ (ok_buf HB.out.2.1) HDX.out.1 HDX.out.2) ?_; rintro e wc ⟨rfl, hb⟩; rw [HMV.out]; replace HX := hid (HX.out.below hb); (try (replace HA := hid (And.intro HA.out.1 (HA.out.2.below hb)); clear y0 y1 y2 y3 yf; obtain ⟨y0, y1, y2, y3, yf⟩ := HA.out.2)); clear hb)
        go_wp2_with fail
        refine hK.out _ _ ?_ (fun hHeld => ?_)
        · exact ⟨HX.out.b.c0, HX.out.b.c1, HX.out.b.c2, HX.out.b.c3, HX.out.b.c4, HX.out.d.c0, HX.out.d.c1, HX.out.d.c2, HX.out.d.c3⟩
        clear hK K
        try simp only [Act.put, List.setIfInBounds_toArray, List.set_cons_zero, List.set_cons_succ]
        refine wpAnyH_ready (rs := [11, 12]) (by kernel_rfl) (by simp) ?_
        refine AllReadyH.cons (o := { dst := some 30, op := Op.call { callee := Callee.value (Operand.func 42), args := #[Operand.tmp 24, Operand.tmp 29], argTypes := #[23, 23] }, type := 23, pos := "move.go:45", after := #[{ on := 5, ground := Ground.data }, { on := 10, ground := Ground.data }, { on := 10, ground := Ground.chain }], guard := none }) rfl (fun K hK => ?_) (AllReadyH.cons (o := { dst := some 15, op := Op.alloc 23, type := 0, pos := "move.go:45", after := #[], guard := none }) rfl (fun K hK => ?_) AllReadyH.nil)
        · go_simp
          (go_at_call 42; with_reducible refine Calls.mono (Rc.meet_any Gr.x0 Gr.y0 Gr.x1 Gr.y1 Mv.x0 Mv.y0 Mv.x1 Mv.y1 _) ?_; rintro e wc ⟨rfl, hb⟩; rw [HMM.out]; replace HX := hid (HX.out.below hb); (try (replace HA := hid (And.intro HA.out.1 (HA.out.2.below hb)); clear y0 y1 y2 y3 yf; obtain ⟨y0, y1, y2, y3, yf⟩ := HA.out.2)); clear hb)
          go_wp2_with fail
          refine hK.out _ _ ?_ (fun hHeld => ?_)
          · exact ⟨HX.out.b.c0, HX.out.b.c1, HX.out.b.c2, HX.out.b.c3, HX.out.b.c4, HX.out.d.c0, HX.out.d.c1, HX.out.d.c2, HX.out.d.c3⟩
          clear hK K
          try simp only [Act.put, List.setIfInBounds_toArray, List.set_cons_zero, List.set_cons_succ]
          refine wpAnyH_ready (rs := [12]) (by kernel_rfl) (by simp) ?_
          refine AllReadyH.cons (o := { dst := some 15, op := Op.alloc 23, type := 0, pos := "move.go:45", after := #[], guard := none }) rfl (fun K hK => ?_) AllReadyH.nil
          go_simp
          refine hK.out _ _ ?_ (fun hHeld => ?_)
          · have hXn := (sw_rect HX.out).1
            exact ⟨hXn.b.c0, hXn.b.c1, hXn.b.c2, hXn.b.c3, hXn.b.c4, hXn.d.c0, hXn.d.c1, hXn.d.c2, hXn.d.c3⟩
          clear hK K
          try simp only [Act.put, List.setIfInBounds_toArray, List.set_cons_zero, List.set_cons_succ]
          have HXp := HX
          have HA := hid (sw_rect HX.out).2
          replace HX := hid (sw_rect HX.out).1
          obtain ⟨y0, y1, y2, y3, yf⟩ := HA.out.2
          refine wpAnyH_ready (rs := [13]) (by kernel_rfl) (by simp) ?_
          refine AllReadyH.cons (o := { dst := none, op := Op.store 23 (Operand.tmp 15) (Operand.tmp 30), type := 0, pos := "move.go:45", after := #[{ on := 12, ground := Ground.data }, { on := 11, ground := Ground.data }, { on := 11, ground := Ground.chain }, { on := 0, ground := Ground.phase }, { on := 1, ground := Ground.phase }, { on := 2, ground := Ground.phase }, { on := 3, ground := Ground.phase }, { on := 4, ground := Ground.phase }, { on := 5, ground := Ground.phase }, { on := 6, ground := Ground.phase }, { on := 7, ground := Ground.phase }, { on := 8, ground := Ground.phase }, { on := 9, ground := Ground.phase }, { on := 10, ground := Ground.phase }, { on := 11, ground := Ground.phase }, { on := 12, ground := Ground.phase }], guard := none }) rfl (fun K hK => ?_) AllReadyH.nil
          go_simp
          refine hK.out _ _ ?_ (fun hHeld => ?_)
          · first
              | (have hXn := HX.out.but (but_set4 _ _ (.int .i64 A.x0) (.int .i64 A.y0) (.int .i64 A.x1) (.int .i64 A.y1)) HA.out.1; with_reducible exact ⟨hXn.b.c0, hXn.b.c1, hXn.b.c2, hXn.b.c3, hXn.b.c4, hXn.d.c0, hXn.d.c1, hXn.d.c2, hXn.d.c3⟩)
              | (have hXn := HXp.out.below ((Below.refl _ _).alloc (Nat.le_refl _) (.cells #[.int .i64 A.x0, .int .i64 A.y0, .int .i64 A.x1, .int .i64 A.y1] 23)); with_reducible exact ⟨hXn.b.c0, hXn.b.c1, hXn.b.c2, hXn.b.c3, hXn.b.c4, hXn.d.c0, hXn.d.c1, hXn.d.c2, hXn.d.c3⟩)
          clear hK K
          try simp only [Act.put, List.setIfInBounds_toArray, List.set_cons_zero, List.set_cons_succ]
          refine wpAnyH_done (by kernel_rfl) ?_ _
          go_wp2_with fail
          go_meet
          case rel =>
            first
              | with_reducible exact ⟨_, rfl, HX.out.but (but_set4 _ _ (.int .i64 A.x0) (.int .i64 A.y0) (.int .i64 A.x1) (.int .i64 A.y1)) HA.out.1, has4_set HA.out.2 (.int .i64 A.x0) (.int .i64 A.y0) (.int .i64 A.x1) (.int .i64 A.y1), HA.out.1⟩
              | with_reducible exact ⟨_, rfl, HXp.out.below ((Below.refl _ _).alloc (Nat.le_refl _) (.cells #[.int .i64 A.x0, .int .i64 A.y0, .int .i64 A.x1, .int .i64 A.y1] 23)), Rc.Has4.new rfl _ _ _ _ _, HXp.out.sz⟩
        · go_simp
          refine hK.out _ _ ?_ (fun hHeld => ?_)
          · have hXn := (sw_rect HX.out).1
            exact ⟨hXn.b.c0, hXn.b.c1, hXn.b.c2, hXn.b.c3, hXn.b.c4, hXn.d.c0, hXn.d.c1, hXn.d.c2, hXn.d.c3⟩
          clear hK K
          try simp only [Act.put, List.setIfInBounds_toArray, List.set_cons_zero, List.set_cons_succ]
          have HXp := HX
          have HA := hid (sw_rect HX.out).2
          replace HX := hid (sw_rect HX.out).1
          obtain ⟨y0, y1, y2, y3, yf⟩ := HA.out.2
          refine wpAnyH_ready (rs := [11]) (by kernel_rfl) (by simp) ?_
          refine AllReadyH.cons (o := { dst := some 30, op := Op.call { callee := Callee.value (Operand.func 42), args := #[Operand.tmp 24, Operand.tmp 29], argTypes := #[23, 23] }, type := 23, pos := "move.go:45", after := #[{ on := 5, ground := Ground.data }, { on := 10, ground := Ground.data }, { on := 10, ground := Ground.chain }], guard := none }) rfl (fun K hK => ?_) AllReadyH.nil
          go_simp
          (go_at_call 42; with_reducible refine Calls.mono (Rc.meet_any Gr.x0 Gr.y0 Gr.x1 Gr.y1 Mv.x0 Mv.y0 Mv.x1 Mv.y1 _) ?_; rintro e wc ⟨rfl, hb⟩; rw [HMM.out]; replace HX := hid (HX.out.below hb); (try (replace HA := hid (And.intro HA.out.1 (HA.out.2.below hb)); clear y0 y1 y2 y3 yf; obtain ⟨y0, y1, y2, y3, yf⟩ := HA.out.2)); clear hb)
          go_wp2_with fail
          refine hK.out _ _ ?_ (fun hHeld => ?_)
          · exact ⟨HX.out.b.c0, HX.out.b.c1, HX.out.b.c2, HX.out.b.c3, HX.out.b.c4, HX.out.d.c0, HX.out.d.c1, HX.out.d.c2, HX.out.d.c3⟩
          clear hK K
          try simp only [Act.put, List.setIfInBounds_toArray, List.set_cons_zero, List.set_cons_succ]
          refine wpAnyH_ready (rs := [13]) (by kernel_rfl) (by simp) ?_
          refine AllReadyH.cons (o := { dst := none, op := Op.store 23 (Operand.tmp 15) (Operand.tmp 30), type := 0, pos := "move.go:45", after := #[{ on := 12, ground := Ground.data }, { on := 11, ground := Ground.data }, { on := 11, ground := Ground.chain }, { on := 0, ground := Ground.phase }, { on := 1, ground := Ground.phase }, { on := 2, ground := Ground.phase }, { on := 3, ground := Ground.phase }, { on := 4, ground := Ground.phase }, { on := 5, ground := Ground.phase }, { on := 6, ground := Ground.phase }, { on := 7, ground := Ground.phase }, { on := 8, ground := Ground.phase }, { on := 9, ground := Ground.phase }, { on := 10, ground := Ground.phase }, { on := 11, ground := Ground.phase }, { on := 12, ground := Ground.phase }], guard := none }) rfl (fun K hK => ?_) AllReadyH.nil
          go_simp
          refine hK.out _ _ ?_ (fun hHeld => ?_)
          · first
              | (have hXn := HX.out.but (but_set4 _ _ (.int .i64 A.x0) (.int .i64 A.y0) (.int .i64 A.x1) (.int .i64 A.y1)) HA.out.1; with_reducible exact ⟨hXn.b.c0, hXn.b.c1, hXn.b.c2, hXn.b.c3, hXn.b.c4, hXn.d.c0, hXn.d.c1, hXn.d.c2, hXn.d.c3⟩)
              | (have hXn := HXp.out.below ((Below.refl _ _).alloc (Nat.le_refl _) (.cells #[.int .i64 A.x0, .int .i64 A.y0, .int .i64 A.x1, .int .i64 A.y1] 23)); with_reducible exact ⟨hXn.b.c0, hXn.b.c1, hXn.b.c2, hXn.b.c3, hXn.b.c4, hXn.d.c0, hXn.d.c1, hXn.d.c2, hXn.d.c3⟩)
          clear hK K
          try simp only [Act.put, List.setIfInBounds_toArray, List.set_cons_zero, List.set_cons_succ]
          refine wpAnyH_done (by kernel_rfl) ?_ _
          go_wp2_with fail
          go_meet
          case rel =>
            first
              | with_reducible exact ⟨_, rfl, HX.out.but (but_set4 _ _ (.int .i64 A.x0) (.int .i64 A.y0) (.int .i64 A.x1) (.int .i64 A.y1)) HA.out.1, has4_set HA.out.2 (.int .i64 A.x0) (.int .i64 A.y0) (.int .i64 A.x1) (.int .i64 A.y1), HA.out.1⟩
              | with_reducible exact ⟨_, rfl, HXp.out.below ((Below.refl _ _).alloc (Nat.le_refl _) (.cells #[.int .i64 A.x0, .int .i64 A.y0, .int .i64 A.x1, .int .i64 A.y1] 23)), Rc.Has4.new rfl _ _ _ _ _, HXp.out.sz⟩
      · go_simp
        refine hK.out _ _ ?_ (fun hHeld => ?_)
        · have hXn := (sw_rect HX.out).1
          exact ⟨hXn.b.c0, hXn.b.c1, hXn.b.c2, hXn.b.c3, hXn.b.c4, hXn.d.c0, hXn.d.c1, hXn.d.c2, hXn.d.c3⟩
        clear hK K
        try simp only [Act.put, List.setIfInBounds_toArray, List.set_cons_zero, List.set_cons_succ]
        have HXp := HX
        have HA := hid (sw_rect HX.out).2
        replace HX := hid (sw_rect HX.out).1
        obtain ⟨y0, y1, y2, y3, yf⟩ := HA.out.2
        refine wpAnyH_ready (rs := [10]) (by kernel_rfl) (by simp) ?_
        refine AllReadyH.cons (o := { dst := some 29, op := Op.call { callee := Callee.value (Operand.func 43), args := #[Operand.tmp 26, Operand.tmp 27, Operand.tmp 28], argTypes := #[23, 3, 3] }, type := 23, pos := "move.go:45", after := #[{ on := 7, ground := Ground.data }, { on := 8, ground := Ground.data }, { on := 9, ground := Ground.data }, { on := 5, ground := Ground.chain }], guard := none }) rfl (fun K hK => ?_) AllReadyH.nil
        go_simp
        (go_at_call 43; with_reducible refine Calls.mono (Rc.move_any B.x0 B.y0 B.x1 B.y1 dx dy _ (ok_buf HB.out.2.1) HDX.out.1 HDX.out.2) ?_; rintro e wc ⟨rfl, hb⟩; rw [HMV.out]; replace HX := hid (HX.out.below hb); (try (replace HA := hid (And.intro HA.out.1 (HA.out.2.below hb)); clear y0 y1 y2 y3 yf; obtain ⟨y0, y1, y2, y3, yf⟩ := HA.out.2)); clear hb)
        go_wp2_with fail
        refine hK.out _ _ ?_ (fun hHeld => ?_)
        · exact ⟨HX.out.b.c0, HX.out.b.c1, HX.out.b.c2, HX.out.b.c3, HX.out.b.c4, HX.out.d.c0, HX.out.d.c1, HX.out.d.c2, HX.out.d.c3⟩
        clear hK K
        try simp only [Act.put, List.setIfInBounds_toArray, List.set_cons_zero, List.set_cons_succ]
        refine wpAnyH_ready (rs := [11]) (by kernel_rfl) (by simp) ?_
        refine AllReadyH.cons (o := { dst := some 30, op := Op.call { callee := Callee.value (Operand.func 42), args := #[Operand.tmp 24, Operand.tmp 29], argTypes := #[23, 23] }, type := 23, pos := "move.go:45", after := #[{ on := 5, ground := Ground.data }, { on := 10, ground := Ground.data }, { on := 10, ground := Ground.chain }], guard := none }) rfl (fun K hK => ?_) AllReadyH.nil
        go_simp
        (go_at_call 42; with_reducible refine Calls.mono (Rc.meet_any Gr.x0 Gr.y0 Gr.x1 Gr.y1 Mv.x0 Mv.y0 Mv.x1 Mv.y1 _) ?_; rintro e wc ⟨rfl, hb⟩; rw [HMM.out]; replace HX := hid (HX.out.below hb); (try (replace HA := hid (And.intro HA.out.1 (HA.out.2.below hb)); clear y0 y1 y2 y3 yf; obtain ⟨y0, y1, y2, y3, yf⟩ := HA.out.2)); clear hb)
        go_wp2_with fail
        refine hK.out _ _ ?_ (fun hHeld => ?_)
        · exact ⟨HX.out.b.c0, HX.out.b.c1, HX.out.b.c2, HX.out.b.c3, HX.out.b.c4, HX.out.d.c0, HX.out.d.c1, HX.out.d.c2, HX.out.d.c3⟩
        clear hK K
        try simp only [Act.put, List.setIfInBounds_toArray, List.set_cons_zero, List.set_cons_succ]
        refine wpAnyH_ready (rs := [13]) (by kernel_rfl) (by simp) ?_
        refine AllReadyH.cons (o := { dst := none, op := Op.store 23 (Operand.tmp 15) (Operand.tmp 30), type := 0, pos := "move.go:45", after := #[{ on := 12, ground := Ground.data }, { on := 11, ground := Ground.data }, { on := 11, ground := Ground.chain }, { on := 0, ground := Ground.phase }, { on := 1, ground := Ground.phase }, { on := 2, ground := Ground.phase }, { on := 3, ground := Ground.phase }, { on := 4, ground := Ground.phase }, { on := 5, ground := Ground.phase }, { on := 6, ground := Ground.phase }, { on := 7, ground := Ground.phase }, { on := 8, ground := Ground.phase }, { on := 9, ground := Ground.phase }, { on := 10, ground := Ground.phase }, { on := 11, ground := Ground.phase }, { on := 12, ground := Ground.phase }], guard := none }) rfl (fun K hK => ?_) AllReadyH.nil
        go_simp
        refine hK.out _ _ ?_ (fun hHeld => ?_)
        · first
            | (have hXn := HX.out.but (but_set4 _ _ (.int .i64 A.x0) (.int .i64 A.y0) (.int .i64 A.x1) (.int .i64 A.y1)) HA.out.1; with_reducible exact ⟨hXn.b.c0, hXn.b.c1, hXn.b.c2, hXn.b.c3, hXn.b.c4, hXn.d.c0, hXn.d.c1, hXn.d.c2, hXn.d.c3⟩)
            | (have hXn := HXp.out.below ((Below.refl _ _).alloc (Nat.le_refl _) (.cells #[.int .i64 A.x0, .int .i64 A.y0, .int .i64 A.x1, .int .i64 A.y1] 23)); with_reducible exact ⟨hXn.b.c0, hXn.b.c1, hXn.b.c2, hXn.b.c3, hXn.b.c4, hXn.d.c0, hXn.d.c1, hXn.d.c2, hXn.d.c3⟩)
        clear hK K
        try simp only [Act.put, List.setIfInBounds_toArray, List.set_cons_zero, List.set_cons_succ]
        refine wpAnyH_done (by kernel_rfl) ?_ _
        go_wp2_with fail
        go_meet
        case rel =>
          first
            | with_reducible exact ⟨_, rfl, HX.out.but (but_set4 _ _ (.int .i64 A.x0) (.int .i64 A.y0) (.int .i64 A.x1) (.int .i64 A.y1)) HA.out.1, has4_set HA.out.2 (.int .i64 A.x0) (.int .i64 A.y0) (.int .i64 A.x1) (.int .i64 A.y1), HA.out.1⟩
            | with_reducible exact ⟨_, rfl, HXp.out.below ((Below.refl _ _).alloc (Nat.le_refl _) (.cells #[.int .i64 A.x0, .int .i64 A.y0, .int .i64 A.x1, .int .i64 A.y1] 23)), Rc.Has4.new rfl _ _ _ _ _, HXp.out.sz⟩
    · go_simp
      refine hK.out _ _ ?_ (fun hHeld => ?_)
      · have hXn := (sw_rect HX.out).1
        exact ⟨hXn.b.c0, hXn.b.c1, hXn.b.c2, hXn.b.c3, hXn.b.c4, hXn.d.c0, hXn.d.c1, hXn.d.c2, hXn.d.c3⟩
      clear hK K
      try simp only [Act.put, List.setIfInBounds_toArray, List.set_cons_zero, List.set_cons_succ]
      have HXp := HX
      have HA := hid (sw_rect HX.out).2
      replace HX := hid (sw_rect HX.out).1
      obtain ⟨y0, y1, y2, y3, yf⟩ := HA.out.2
      refine wpAnyH_ready (rs := [5]) (by kernel_rfl) (by simp) ?_
      refine AllReadyH.cons (o := { dst := some 24, op := Op.call { callee := Callee.value (Operand.func 54), args := #[Operand.tmp 19, Operand.tmp 20, Operand.tmp 21, Operand.tmp 22, Operand.tmp 23], argTypes := #[23, 3, 3, 3, 3] }, type := 23, pos := "move.go:45", after := #[{ on := 0, ground := Ground.data }, { on := 1, ground := Ground.data }, { on := 2, ground := Ground.data }, { on := 3, ground := Ground.data }, { on := 4, ground := Ground.data }], guard := none }) rfl (fun K hK => ?_) AllReadyH.nil
      go_simp
      (go_at_call 54; with_reducible refine Calls.mono (Rc.grow_any D.x0 D.y0 D.x1 D.y1 (rx : Int) (ry : Int) (rx : Int) (ry : Int) _ HD.out.1.ok HC.out.1 HC.out.2 HC.out.1 HC.out.2) ?_; rintro e wc ⟨rfl, hb⟩; rw [HGR.out]; replace HX := hid (HX.out.below hb); (try (replace HA := hid (And.intro HA.out.1 (HA.out.2.below hb)); clear y0 y1 y2 y3 yf; obtain ⟨y0, y1, y2, y3, yf⟩ := HA.out.2)); clear hb)
      go_wp2_with fail
      refine hK.out _ _ ?_ (fun hHeld => ?_)
      · exact ⟨HX.out.b.c0, HX.out.b.c1, HX.out.b.c2, HX.out.b.c3, HX.out.b.c4, HX.out.d.c0, HX.out.d.c1, HX.out.d.c2, HX.out.d.c3⟩
      clear hK K
      try simp only [Act.put, List.setIfInBounds_toArray, List.set_cons_zero, List.set_cons_succ]
      refine wpAnyH_ready (rs := [10]) (by kernel_rfl) (by simp) ?_
      refine AllReadyH.cons (o := { dst := some 29, op := Op.call { callee := Callee.value (Operand.func 43), args := #[Operand.tmp 26, Operand.tmp 27, Operand.tmp 28], argTypes := #[23, 3, 3] }, type := 23, pos := "move.go:45", after := #[{ on := 7, ground := Ground.data }, { on := 8, ground := Ground.data }, { on := 9, ground := Ground.data }, { on := 5, ground := Ground.chain }], guard := none }) rfl (fun K hK => ?_) AllReadyH.nil
      go_simp
      (go_at_call 43; with_reducible refine Calls.mono (Rc.move_any B.x0 B.y0 B.x1 B.y1 dx dy _ (ok_buf HB.out.2.1) HDX.out.1 HDX.out.2) ?_; rintro e wc ⟨rfl, hb⟩; rw [HMV.out]; replace HX := hid (HX.out.below hb); (try (replace HA := hid (And.intro HA.out.1 (HA.out.2.below hb)); clear y0 y1 y2 y3 yf; obtain ⟨y0, y1, y2, y3, yf⟩ := HA.out.2)); clear hb)
      go_wp2_with fail
      refine hK.out _ _ ?_ (fun hHeld => ?_)
      · exact ⟨HX.out.b.c0, HX.out.b.c1, HX.out.b.c2, HX.out.b.c3, HX.out.b.c4, HX.out.d.c0, HX.out.d.c1, HX.out.d.c2, HX.out.d.c3⟩
      clear hK K
      try simp only [Act.put, List.setIfInBounds_toArray, List.set_cons_zero, List.set_cons_succ]
      refine wpAnyH_ready (rs := [11]) (by kernel_rfl) (by simp) ?_
      refine AllReadyH.cons (o := { dst := some 30, op := Op.call { callee := Callee.value (Operand.func 42), args := #[Operand.tmp 24, Operand.tmp 29], argTypes := #[23, 23] }, type := 23, pos := "move.go:45", after := #[{ on := 5, ground := Ground.data }, { on := 10, ground := Ground.data }, { on := 10, ground := Ground.chain }], guard := none }) rfl (fun K hK => ?_) AllReadyH.nil
      go_simp
      (go_at_call 42; with_reducible refine Calls.mono (Rc.meet_any Gr.x0 Gr.y0 Gr.x1 Gr.y1 Mv.x0 Mv.y0 Mv.x1 Mv.y1 _) ?_; rintro e wc ⟨rfl, hb⟩; rw [HMM.out]; replace HX := hid (HX.out.below hb); (try (replace HA := hid (And.intro HA.out.1 (HA.out.2.below hb)); clear y0 y1 y2 y3 yf; obtain ⟨y0, y1, y2, y3, yf⟩ := HA.out.2)); clear hb)
      go_wp2_with fail
      refine hK.out _ _ ?_ (fun hHeld => ?_)
      · exact ⟨HX.out.b.c0, HX.out.b.c1, HX.out.b.c2, HX.out.b.c3, HX.out.b.c4, HX.out.d.c0, HX.out.d.c1, HX.out.d.c2, HX.out.d.c3⟩
      clear hK K
      try simp only [Act.put, List.setIfInBounds_toArray, List.set_cons_zero, List.set_cons_succ]
      refine wpAnyH_ready (rs := [13]) (by kernel_rfl) (by simp) ?_
      refine AllReadyH.cons (o := { dst := none, op := Op.store 23 (Operand.tmp 15) (Operand.tmp 30), type := 0, pos := "move.go:45", after := #[{ on := 12, ground := Ground.data }, { on := 11, ground := Ground.data }, { on := 11, ground := Ground.chain }, { on := 0, ground := Ground.phase }, { on := 1, ground := Ground.phase }, { on := 2, ground := Ground.phase }, { on := 3, ground := Ground.phase }, { on := 4, ground := Ground.phase }, { on := 5, ground := Ground.phase }, { on := 6, ground := Ground.phase }, { on := 7, ground := Ground.phase }, { on := 8, ground := Ground.phase }, { on := 9, ground := Ground.phase }, { on := 10, ground := Ground.phase }, { on := 11, ground := Ground.phase }, { on := 12, ground := Ground.phase }], guard := none }) rfl (fun K hK => ?_) AllReadyH.nil
      go_simp
      refine hK.out _ _ ?_ (fun hHeld => ?_)
      · first
          | (have hXn := HX.out.but (but_set4 _ _ (.int .i64 A.x0) (.int .i64 A.y0) (.int .i64 A.x1) (.int .i64 A.y1)) HA.out.1; with_reducible exact ⟨hXn.b.c0, hXn.b.c1, hXn.b.c2, hXn.b.c3, hXn.b.c4, hXn.d.c0, hXn.d.c1, hXn.d.c2, hXn.d.c3⟩)
          | (have hXn := HXp.out.below ((Below.refl _ _).alloc (Nat.le_refl _) (.cells #[.int .i64 A.x0, .int .i64 A.y0, .int .i64 A.x1, .int .i64 A.y1] 23)); with_reducible exact ⟨hXn.b.c0, hXn.b.c1, hXn.b.c2, hXn.b.c3, hXn.b.c4, hXn.d.c0, hXn.d.c1, hXn.d.c2, hXn.d.c3⟩)
      clear hK K
      try simp only [Act.put, List.setIfInBounds_toArray, List.set_cons_zero, List.set_cons_succ]
      refine wpAnyH_done (by kernel_rfl) ?_ _
      go_wp2_with fail
      go_meet
      case rel =>
        first
          | with_reducible exact ⟨_, rfl, HX.out.but (but_set4 _ _ (.int .i64 A.x0) (.int .i64 A.y0) (.int .i64 A.x1) (.int .i64 A.y1)) HA.out.1, has4_set HA.out.2 (.int .i64 A.x0) (.int .i64 A.y0) (.int .i64 A.x1) (.int .i64 A.y1), HA.out.1⟩
          | with_reducible exact ⟨_, rfl, HXp.out.below ((Below.refl _ _).alloc (Nat.le_refl _) (.cells #[.int .i64 A.x0, .int .i64 A.y0, .int .i64 A.x1, .int .i64 A.y1] 23)), Rc.Has4.new rfl _ _ _ _ _, HXp.out.sz⟩
  case rest =>
    obtain ⟨ka, rfl, hX⟩ := hcut
    obtain ⟨w3, rfl⟩ : ∃ w3, w3 = wc := ⟨_, rfl⟩
    replace HX := hid hX
    clear hX
    go_wp2
    go_cut [16] (fun v16 wx => ∃ k16 eo en em eg eoff, v16 = .pointer (some ⟨k16, 0, none⟩) ∧ Sw w B D p ao n m wx ∧ Has5 wx k16 (orN D) eo en em ∧ Ox (w.heap.size + 1 + 1 + 1 + 1) wx eo en em eg eoff (img (orN D) (softX B f dx dy rx ry)) ∧ (w.heap.size + 1 + 1 + 1 + 1) ≤ k16 ∧ (0 < em → k16 ≠ eg))
    case first =>
      replace HX := hid (HX.out.below (Below.refl _ _).drew)
      refine wp_region_held_drew (S := (fun w' => w'.cell? ⟨w.heap.size, 0, none⟩ = some (.int .i64 B.x0) ∧ w'.cell? ⟨w.heap.size, 1, none⟩ = some (.int .i64 B.y0) ∧ w'.cell? ⟨w.heap.size, 2, none⟩ = some (.int .i64 B.x1) ∧ w'.cell? ⟨w.heap.size, 3, none⟩ = some (.int .i64 B.y1) ∧ w'.cell? ⟨w.heap.size, 4, none⟩ = some (.slice ao n m) ∧ w'.cell? ⟨(w.heap.size + 1), 0, none⟩ = some (.int .i64 D.x0) ∧ w'.cell? ⟨(w.heap.size + 1), 1, none⟩ = some (.int .i64 D.y0) ∧ w'.cell? ⟨(w.heap.size + 1), 2, none⟩ = some (.int .i64 D.x1) ∧ w'.cell? ⟨(w.heap.size + 1), 3, none⟩ = some (.int .i64 D.y1) ∧ w'.cell? ⟨ka, 0, none⟩ = some (.int .i64 A.x0) ∧ w'.cell? ⟨ka, 1, none⟩ = some (.int .i64 A.y0) ∧ w'.cell? ⟨ka, 2, none⟩ = some (.int .i64 A.x1) ∧ w'.cell? ⟨ka, 3, none⟩ = some (.int .i64 A.y1))) (by kernel_rfl) ?_ (fun hHeld => ?_)
      · exact ⟨HX.out.x.b.c0, HX.out.x.b.c1, HX.out.x.b.c2, HX.out.x.b.c3, HX.out.x.b.c4, HX.out.x.d.c0, HX.out.x.d.c1, HX.out.x.d.c2, HX.out.x.d.c3, HX.out.a.c0, HX.out.a.c1, HX.out.a.c2, HX.out.a.c3⟩
      generalize w3.drew = wd at HX hHeld ⊢
      refine wpAnyH_take (i := 0) (oi := { dst := some 31, op := Op.load 26 (Operand.tmp 7), type := 26, pos := "move.go:46", after := #[], guard := none }) (v := ?_) rfl (by kernel_rfl) (by kernel_rfl) (by kernel_rfl) (fun _ _ _ h => h) (Or.inl ⟨by rfl, ?hy⟩) (by assumption) ?_
      case hy => (intro w hSw; (try dsimp only at hSw); go_simp; first | done | with_reducible rfl)
      try simp only [Act.put, List.setIfInBounds_toArray, List.set_cons_zero, List.set_cons_succ]
      refine wpAnyH_take (i := 1) (oi := { dst := some 32, op := Op.load 23 (Operand.tmp 15), type := 23, pos := "move.go:46", after := #[], guard := none }) (v := ?_) rfl (by kernel_rfl) (by kernel_rfl) (by kernel_rfl) (fun _ _ _ h => h) (Or.inl ⟨by rfl, ?hy⟩) (by assumption) ?_
      case hy => (intro w hSw; (try dsimp only at hSw); go_simp; first | done | with_reducible rfl)
      try simp only [Act.put, List.setIfInBounds_toArray, List.set_cons_zero, List.set_cons_succ]
      refine wpAnyH_take (i := 2) (oi := { dst := some 33, op := Op.move (Operand.tmp 2), type := 3, pos := "move.go:46", after := #[], guard := none }) (v := ?_) rfl (by kernel_rfl) (by kernel_rfl) (by kernel_rfl) (fun _ _ _ h => h) (Or.inl ⟨by rfl, ?hy⟩) (by assumption) ?_
      case hy => (intro w hSw; (try dsimp only at hSw); go_simp; first | done | with_reducible rfl)
      try simp only [Act.put, List.setIfInBounds_toArray, List.set_cons_zero, List.set_cons_succ]
      refine wpAnyH_take (i := 3) (oi := { dst := some 34, op := Op.move (Operand.tmp 3), type := 3, pos := "move.go:46", after := #[], guard := none }) (v := ?_) rfl (by kernel_rfl) (by kernel_rfl) (by kernel_rfl) (fun _ _ _ h => h) (Or.inl ⟨by rfl, ?hy⟩) (by assumption) ?_
      case hy => (intro w hSw; (try dsimp only at hSw); go_simp; first | done | with_reducible rfl)
      try simp only [Act.put, List.setIfInBounds_toArray, List.set_cons_zero, List.set_cons_succ]
      refine wpAnyH_take (i := 5) (oi := { dst := some 36, op := Op.load 23 (Operand.tmp 8), type := 23, pos := "move.go:46", after := #[], guard := none }) (v := ?_) rfl (by kernel_rfl) (by kernel_rfl) (by kernel_rfl) (fun _ _ _ h => h) (Or.inl ⟨by rfl, ?hy⟩) (by assumption) ?_
      case hy => (intro w hSw; (try dsimp only at hSw); go_simp; first | done | with_reducible rfl)
      try simp only [Act.put, List.setIfInBounds_toArray, List.set_cons_zero, List.set_cons_succ]
      refine wpAnyH_take (i := 6) (oi := { dst := some 37, op := Op.move (Operand.tmp 4), type := 3, pos := "move.go:46", after := #[], guard := none }) (v := ?_) rfl (by kernel_rfl) (by kernel_rfl) (by kernel_rfl) (fun _ _ _ h => h) (Or.inl ⟨by rfl, ?hy⟩) (by assumption) ?_
      case hy => (intro w hSw; (try dsimp only at hSw); go_simp; first | done | with_reducible rfl)
      try simp only [Act.put, List.setIfInBounds_toArray, List.set_cons_zero, List.set_cons_succ]
      refine wpAnyH_take (i := 7) (oi := { dst := some 38, op := Op.move (Operand.tmp 5), type := 3, pos := "move.go:46", after := #[], guard := none }) (v := ?_) rfl (by kernel_rfl) (by kernel_rfl) (by kernel_rfl) (fun _ _ _ h => h) (Or.inl ⟨by rfl, ?hy⟩) (by assumption) ?_
      case hy => (intro w hSw; (try dsimp only at hSw); go_simp; first | done | with_reducible rfl)
      try simp only [Act.put, List.setIfInBounds_toArray, List.set_cons_zero, List.set_cons_succ]
      refine wpAnyH_ready (rs := [4, 9]) (by kernel_rfl) (by simp) ?_
      refine AllReadyH.cons (o := { dst := some 35, op := Op.call { callee := Callee.value (Operand.func 20), args := #[Operand.tmp 31, Operand.tmp 32, Operand.tmp 33, Operand.tmp 34], argTypes := #[26, 23, 3, 3] }, type := 26, pos := "move.go:46", after := #[{ on := 0, ground := Ground.data }, { on := 1, ground := Ground.data }, { on := 2, ground := Ground.data }, { on := 3, ground := Ground.data }], guard := none }) rfl (fun K hK => ?_) (AllReadyH.cons (o := { dst := some 16, op := Op.alloc 26, type := 0, pos := "move.go:46", after := #[], guard := none }) rfl (fun K hK => ?_) AllReadyH.nil)
      · go_simp
        (go_at_call 20; with_reducible refine Calls.mono (offset_any B ao n m g off f A dx dy _ HB.out.1 HB.out.2.1 (HV.out.below HX.out.x.low) HAO.out.1 HAO.out.2.1 HDX.out.1 HDX.out.2) ?_; rintro e wc ⟨hr, hb⟩; obtain ⟨co, cn, cm, cg, coff, rfl, hO, hg1, hg2, hln⟩ := retG hr; rw [img_len] at hln; have HVc := hid hO.v; have HLc : Hid (bufB (orN A) cn = true ∧ cn ≤ 5000) := (by rw [← hln]; exact hid HAO.out.2.2); (try (replace HA := hid (And.intro HA.out.1 (And.intro (HA.out.2.1.below hb) HA.out.2.2)); clear y0 y1 y2 y3 y4 yf; obtain ⟨y0, y1, y2, y3, y4, yf⟩ := HA.out.2.1)); replace HX := hid (HX.out.below hb); clear hr hO hg1 hg2 hln hb)
        go_wp2_with fail
        refine hK.out _ _ ?_ (fun hHeld => ?_)
        · exact ⟨HX.out.x.b.c0, HX.out.x.b.c1, HX.out.x.b.c2, HX.out.x.b.c3, HX.out.x.b.c4, HX.out.x.d.c0, HX.out.x.d.c1, HX.out.x.d.c2, HX.out.x.d.c3, HX.out.a.c0, HX.out.a.c1, HX.out.a.c2, HX.out.a.c3⟩
        clear hK K
        try simp only [Act.put, List.setIfInBounds_toArray, List.set_cons_zero, List.set_cons_succ]
        refine wpAnyH_ready (rs := [8, 9]) (by kernel_rfl) (by simp) ?_
        refine AllReadyH.cons (o := { dst := some 39, op := Op.call { callee := Callee.value (Operand.func 55), args := #[Operand.tmp 35, Operand.tmp 36, Operand.tmp 37, Operand.tmp 38], argTypes := #[26, 23, 3, 3] }, type := 26, pos := "move.go:46", after := #[{ on := 4, ground := Ground.data }, { on := 5, ground := Ground.data }, { on := 6, ground := Ground.data }, { on := 7, ground := Ground.data }, { on := 4, ground := Ground.chain }], guard := none }) rfl (fun K hK => ?_) (AllReadyH.cons (o := { dst := some 16, op := Op.alloc 26, type := 0, pos := "move.go:46", after := #[], guard := none }) rfl (fun K hK => ?_) AllReadyH.nil)
        · go_simp
          (go_at_call 55; with_reducible refine Calls.mono (box_any (orN A) co cn cm cg coff (fun x y => atX B f (x - dx) (y - dy)) D rx ry _ HLc.out.1 HLc.out.2 HVc.out HBY.out HD.out.1 HD.out.2.1 HD.out.2.2.1 HD.out.2.2.2) ?_; rintro e wc ⟨hr, hb⟩; rw [HS.out] at hr; obtain ⟨eo, en, em, eg, eoff, rfl, hO, hg1, hg2, hln⟩ := retG hr; have HE := hid (And.intro (hO.mono HX.out.x.sz) hg2); (try (have HNE := hid (fun (_ : 0 < em) => ne_pre HA.out.2.1 hg1))); (try (replace HA := hid (And.intro HA.out.1 (And.intro (HA.out.2.1.below hb) HA.out.2.2)); clear y0 y1 y2 y3 y4 yf; obtain ⟨y0, y1, y2, y3, y4, yf⟩ := HA.out.2.1)); replace HX := hid (HX.out.below hb); clear hr hO hg1 hg2 hln hb)
          go_wp2_with fail
          refine hK.out _ _ ?_ (fun hHeld => ?_)
          · exact ⟨HX.out.x.b.c0, HX.out.x.b.c1, HX.out.x.b.c2, HX.out.x.b.c3, HX.out.x.b.c4, HX.out.x.d.c0, HX.out.x.d.c1, HX.out.x.d.c2, HX.out.x.d.c3, HX.out.a.c0, HX.out.a.c1, HX.out.a.c2, HX.out.a.c3⟩
          clear hK K
          try simp only [Act.put, List.setIfInBounds_toArray, List.set_cons_zero, List.set_cons_succ]
          refine wpAnyH_ready (rs := [9]) (by kernel_rfl) (by simp) ?_
          refine AllReadyH.cons (o := { dst := some 16, op := Op.alloc 26, type := 0, pos := "move.go:46", after := #[], guard := none }) rfl (fun K hK => ?_) AllReadyH.nil
          go_simp
          refine hK.out _ _ ?_ (fun hHeld => ?_)
          · have hXn := (sy_buf HX.out).1
            exact ⟨hXn.x.b.c0, hXn.x.b.c1, hXn.x.b.c2, hXn.x.b.c3, hXn.x.b.c4, hXn.x.d.c0, hXn.x.d.c1, hXn.x.d.c2, hXn.x.d.c3, hXn.a.c0, hXn.a.c1, hXn.a.c2, hXn.a.c3⟩
          clear hK K
          try simp only [Act.put, List.setIfInBounds_toArray, List.set_cons_zero, List.set_cons_succ]
          have HXp := HX
          try have HEp := HE
          have HA := hid (sy_buf HX.out).2
          replace HX := hid (sy_buf HX.out).1
          obtain ⟨y0, y1, y2, y3, y4, yf⟩ := HA.out.2.1
          try replace HVc := hid (HVc.out.below ((Below.refl _ _).alloc (Nat.le_refl _) (.cells #[.int .i64 0, .int .i64 0, .int .i64 0, .int .i64 0, .slice none 0 0] 26)))
          try (have HNE := hid (fun (h : 0 < em) => Nat.ne_of_gt (HE.out.2 h)); replace HE := hid (And.intro (HE.out.1.below ((Below.refl _ _).alloc (Nat.le_refl _) (.cells #[.int .i64 0, .int .i64 0, .int .i64 0, .int .i64 0, .slice none 0 0] 26))) trivial))
          refine wpAnyH_ready (rs := [10]) (by kernel_rfl) (by simp) ?_
          refine AllReadyH.cons (o := { dst := none, op := Op.store 26 (Operand.tmp 16) (Operand.tmp 39), type := 0, pos := "move.go:46", after := #[{ on := 9, ground := Ground.data }, { on := 8, ground := Ground.data }, { on := 8, ground := Ground.chain }, { on := 0, ground := Ground.phase }, { on := 1, ground := Ground.phase }, { on := 2, ground := Ground.phase }, { on := 3, ground := Ground.phase }, { on := 4, ground := Ground.phase }, { on := 5, ground := Ground.phase }, { on := 6, ground := Ground.phase }, { on := 7, ground := Ground.phase }, { on := 8, ground := Ground.phase }, { on := 9, ground := Ground.phase }], guard := none }) rfl (fun K hK => ?_) AllReadyH.nil
          go_simp
          refine hK.out _ _ ?_ (fun hHeld => ?_)
          · first
              | (have hXn := HX.out.but (but_set5 _ _ (.int .i64 (orN D).x0) (.int .i64 (orN D).y0) (.int .i64 (orN D).x1) (.int .i64 (orN D).y1) (.slice eo en em)) HA.out.1 HA.out.2.2; with_reducible exact ⟨hXn.x.b.c0, hXn.x.b.c1, hXn.x.b.c2, hXn.x.b.c3, hXn.x.b.c4, hXn.x.d.c0, hXn.x.d.c1, hXn.x.d.c2, hXn.x.d.c3, hXn.a.c0, hXn.a.c1, hXn.a.c2, hXn.a.c3⟩)
              | (have hXn := HXp.out.below ((Below.refl _ _).alloc (Nat.le_refl _) (.cells #[.int .i64 (orN D).x0, .int .i64 (orN D).y0, .int .i64 (orN D).x1, .int .i64 (orN D).y1, .slice eo en em] 26)); with_reducible exact ⟨hXn.x.b.c0, hXn.x.b.c1, hXn.x.b.c2, hXn.x.b.c3, hXn.x.b.c4, hXn.x.d.c0, hXn.x.d.c1, hXn.x.d.c2, hXn.x.d.c3, hXn.a.c0, hXn.a.c1, hXn.a.c2, hXn.a.c3⟩)
          clear hK K
          try simp only [Act.put, List.setIfInBounds_toArray, List.set_cons_zero, List.set_cons_succ]
          refine wpAnyH_done (by kernel_rfl) ?_ _
          go_wp2_with fail
          go_meet
          case rel =>
            first
              | with_reducible exact ⟨_, eo, en, em, eg, eoff, rfl, (HX.out.but (but_set5 _ _ (.int .i64 (orN D).x0) (.int .i64 (orN D).y0) (.int .i64 (orN D).x1) (.int .i64 (orN D).y1) (.slice eo en em)) HA.out.1 HA.out.2.2).x, has5_set HA.out.2.1 (orN D).x0 (orN D).y0 (orN D).x1 (orN D).y1 eo en em, HE.out.1.but (but_set5 _ _ (.int .i64 (orN D).x0) (.int .i64 (orN D).y0) (.int .i64 (orN D).x1) (.int .i64 (orN D).y1) (.slice eo en em)) (fun h => Ne.symm (HNE.out h)), HA.out.1, HNE.out⟩
              | with_reducible exact ⟨_, eo, en, em, eg, eoff, rfl, (HXp.out.below ((Below.refl _ _).alloc (Nat.le_refl _) (.cells #[.int .i64 (orN D).x0, .int .i64 (orN D).y0, .int .i64 (orN D).x1, .int .i64 (orN D).y1, .slice eo en em] 26))).x, Has5.new rfl _ _ _ _ _ _ _ _, HEp.out.1.below ((Below.refl _ _).alloc (Nat.le_refl _) (.cells #[.int .i64 (orN D).x0, .int .i64 (orN D).y0, .int .i64 (orN D).x1, .int .i64 (orN D).y1, .slice eo en em] 26)), HXp.out.x.sz, HNE.out⟩
        · go_simp
          refine hK.out _ _ ?_ (fun hHeld => ?_)
          · have hXn := (sy_buf HX.out).1
            exact ⟨hXn.x.b.c0, hXn.x.b.c1, hXn.x.b.c2, hXn.x.b.c3, hXn.x.b.c4, hXn.x.d.c0, hXn.x.d.c1, hXn.x.d.c2, hXn.x.d.c3, hXn.a.c0, hXn.a.c1, hXn.a.c2, hXn.a.c3⟩
          clear hK K
          try simp only [Act.put, List.setIfInBounds_toArray, List.set_cons_zero, List.set_cons_succ]
          have HXp := HX
          try have HEp := HE
          have HA := hid (sy_buf HX.out).2
          replace HX := hid (sy_buf HX.out).1
          obtain ⟨y0, y1, y2, y3, y4, yf⟩ := HA.out.2.1
          try replace HVc := hid (HVc.out.below ((Below.refl _ _).alloc (Nat.le_refl _) (.cells #[.int .i64 0, .int .i64 0, .int .i64 0, .int .i64 0, .slice none 0 0] 26)))
          try (have HNE := hid (fun (h : 0 < em) => Nat.ne_of_gt (HE.out.2 h)); replace HE := hid (And.intro (HE.out.1.below ((Below.refl _ _).alloc (Nat.le_refl _) (.cells #[.int .i64 0, .int .i64 0, .int .i64 0, .int .i64 0, .slice none 0 0] 26))) trivial))
          refine wpAnyH_ready (rs := [8]) (by kernel_rfl) (by simp) ?_
          refine AllReadyH.cons (o := { dst := some 39, op := Op.call { callee := Callee.value (Operand.func 55), args := #[Operand.tmp 35, Operand.tmp 36, Operand.tmp 37, Operand.tmp 38], argTypes := #[26, 23, 3, 3] }, type := 26, pos := "move.go:46", after := #[{ on := 4, ground := Ground.data }, { on := 5, ground := Ground.data }, { on := 6, ground := Ground.data }, { on := 7, ground := Ground.data }, { on := 4, ground := Ground.chain }], guard := none }) rfl (fun K hK => ?_) AllReadyH.nil
          go_simp
          (go_at_call 55; with_reducible refine Calls.mono (box_any (orN A) co cn cm cg coff (fun x y => atX B f (x - dx) (y - dy)) D rx ry _ HLc.out.1 HLc.out.2 HVc.out HBY.out HD.out.1 HD.out.2.1 HD.out.2.2.1 HD.out.2.2.2) ?_; rintro e wc ⟨hr, hb⟩; rw [HS.out] at hr; obtain ⟨eo, en, em, eg, eoff, rfl, hO, hg1, hg2, hln⟩ := retG hr; have HE := hid (And.intro (hO.mono HX.out.x.sz) hg2); (try (have HNE := hid (fun (_ : 0 < em) => ne_pre HA.out.2.1 hg1))); (try (replace HA := hid (And.intro HA.out.1 (And.intro (HA.out.2.1.below hb) HA.out.2.2)); clear y0 y1 y2 y3 y4 yf; obtain ⟨y0, y1, y2, y3, y4, yf⟩ := HA.out.2.1)); replace HX := hid (HX.out.below hb); clear hr hO hg1 hg2 hln hb)
          go_wp2_with fail
          refine hK.out _ _ ?_ (fun hHeld => ?_)
          · exact ⟨HX.out.x.b.c0, HX.out.x.b.c1, HX.out.x.b.c2, HX.out.x.b.c3, HX.out.x.b.c4, HX.out.x.d.c0, HX.out.x.d.c1, HX.out.x.d.c2, HX.out.x.d.c3, HX.out.a.c0, HX.out.a.c1, HX.out.a.c2, HX.out.a.c3⟩
          clear hK K
          try simp only [Act.put, List.setIfInBounds_toArray, List.set_cons_zero, List.set_cons_succ]
          refine wpAnyH_ready (rs := [10]) (by kernel_rfl) (by simp) ?_
          refine AllReadyH.cons (o := { dst := none, op := Op.store 26 (Operand.tmp 16) (Operand.tmp 39), type := 0, pos := "move.go:46", after := #[{ on := 9, ground := Ground.data }, { on := 8, ground := Ground.data }, { on := 8, ground := Ground.chain }, { on := 0, ground := Ground.phase }, { on := 1, ground := Ground.phase }, { on := 2, ground := Ground.phase }, { on := 3, ground := Ground.phase }, { on := 4, ground := Ground.phase }, { on := 5, ground := Ground.phase }, { on := 6, ground := Ground.phase }, { on := 7, ground := Ground.phase }, { on := 8, ground := Ground.phase }, { on := 9, ground := Ground.phase }], guard := none }) rfl (fun K hK => ?_) AllReadyH.nil
          go_simp
          refine hK.out _ _ ?_ (fun hHeld => ?_)
          · first
              | (have hXn := HX.out.but (but_set5 _ _ (.int .i64 (orN D).x0) (.int .i64 (orN D).y0) (.int .i64 (orN D).x1) (.int .i64 (orN D).y1) (.slice eo en em)) HA.out.1 HA.out.2.2; with_reducible exact ⟨hXn.x.b.c0, hXn.x.b.c1, hXn.x.b.c2, hXn.x.b.c3, hXn.x.b.c4, hXn.x.d.c0, hXn.x.d.c1, hXn.x.d.c2, hXn.x.d.c3, hXn.a.c0, hXn.a.c1, hXn.a.c2, hXn.a.c3⟩)
              | (have hXn := HXp.out.below ((Below.refl _ _).alloc (Nat.le_refl _) (.cells #[.int .i64 (orN D).x0, .int .i64 (orN D).y0, .int .i64 (orN D).x1, .int .i64 (orN D).y1, .slice eo en em] 26)); with_reducible exact ⟨hXn.x.b.c0, hXn.x.b.c1, hXn.x.b.c2, hXn.x.b.c3, hXn.x.b.c4, hXn.x.d.c0, hXn.x.d.c1, hXn.x.d.c2, hXn.x.d.c3, hXn.a.c0, hXn.a.c1, hXn.a.c2, hXn.a.c3⟩)
          clear hK K
          try simp only [Act.put, List.setIfInBounds_toArray, List.set_cons_zero, List.set_cons_succ]
          refine wpAnyH_done (by kernel_rfl) ?_ _
          go_wp2_with fail
          go_meet
          case rel =>
            first
              | with_reducible exact ⟨_, eo, en, em, eg, eoff, rfl, (HX.out.but (but_set5 _ _ (.int .i64 (orN D).x0) (.int .i64 (orN D).y0) (.int .i64 (orN D).x1) (.int .i64 (orN D).y1) (.slice eo en em)) HA.out.1 HA.out.2.2).x, has5_set HA.out.2.1 (orN D).x0 (orN D).y0 (orN D).x1 (orN D).y1 eo en em, HE.out.1.but (but_set5 _ _ (.int .i64 (orN D).x0) (.int .i64 (orN D).y0) (.int .i64 (orN D).x1) (.int .i64 (orN D).y1) (.slice eo en em)) (fun h => Ne.symm (HNE.out h)), HA.out.1, HNE.out⟩
              | with_reducible exact ⟨_, eo, en, em, eg, eoff, rfl, (HXp.out.below ((Below.refl _ _).alloc (Nat.le_refl _) (.cells #[.int .i64 (orN D).x0, .int .i64 (orN D).y0, .int .i64 (orN D).x1, .int .i64 (orN D).y1, .slice eo en em] 26))).x, Has5.new rfl _ _ _ _ _ _ _ _, HEp.out.1.below ((Below.refl _ _).alloc (Nat.le_refl _) (.cells #[.int .i64 (orN D).x0, .int .i64 (orN D).y0, .int .i64 (orN D).x1, .int .i64 (orN D).y1, .slice eo en em] 26)), HXp.out.x.sz, HNE.out⟩
      · go_simp
        refine hK.out _ _ ?_ (fun hHeld => ?_)
        · have hXn := (sy_buf HX.out).1
          exact ⟨hXn.x.b.c0, hXn.x.b.c1, hXn.x.b.c2, hXn.x.b.c3, hXn.x.b.c4, hXn.x.d.c0, hXn.x.d.c1, hXn.x.d.c2, hXn.x.d.c3, hXn.a.c0, hXn.a.c1, hXn.a.c2, hXn.a.c3⟩
        clear hK K
        try simp only [Act.put, List.setIfInBounds_toArray, List.set_cons_zero, List.set_cons_succ]
        have HXp := HX
        try have HEp := HE
        have HA := hid (sy_buf HX.out).2
        replace HX := hid (sy_buf HX.out).1
        obtain ⟨y0, y1, y2, y3, y4, yf⟩ := HA.out.2.1
        try replace HVc := hid (HVc.out.below ((Below.refl _ _).alloc (Nat.le_refl _) (.cells #[.int .i64 0, .int .i64 0, .int .i64 0, .int .i64 0, .slice none 0 0] 26)))
        try (have HNE := hid (fun (h : 0 < em) => Nat.ne_of_gt (HE.out.2 h)); replace HE := hid (And.intro (HE.out.1.below ((Below.refl _ _).alloc (Nat.le_refl _) (.cells #[.int .i64 0, .int .i64 0, .int .i64 0, .int .i64 0, .slice none 0 0] 26))) trivial))
        refine wpAnyH_ready (rs := [4]) (by kernel_rfl) (by simp) ?_
        refine AllReadyH.cons (o := { dst := some 35, op := Op.call { callee := Callee.value (Operand.func 20), args := #[Operand.tmp 31, Operand.tmp 32, Operand.tmp 33, Operand.tmp 34], argTypes := #[26, 23, 3, 3] }, type := 26, pos := "move.go:46", after := #[{ on := 0, ground := Ground.data }, { on := 1, ground := Ground.data }, { on := 2, ground := Ground.data }, { on := 3, ground := Ground.data }], guard := none }) rfl (fun K hK => ?_) AllReadyH.nil
        go_simp
        (go_at_call 20; with_reducible refine Calls.mono (offset_any B ao n m g off f A dx dy _ HB.out.1 HB.out.2.1 (HV.out.below HX.out.x.low) HAO.out.1 HAO.out.2.1 HDX.out.1 HDX.out.2) ?_; rintro e wc ⟨hr, hb⟩; obtain ⟨co, cn, cm, cg, coff, rfl, hO, hg1, hg2, hln⟩ := retG hr; rw [img_len] at hln; have HVc := hid hO.v; have HLc : Hid (bufB (orN A) cn = true ∧ cn ≤ 5000) := (by rw [← hln]; exact hid HAO.out.2.2); (try (replace HA := hid (And.intro HA.out.1 (And.intro (HA.out.2.1.below hb) HA.out.2.2)); clear y0 y1 y2 y3 y4 yf; obtain ⟨y0, y1, y2, y3, y4, yf⟩ := HA.out.2.1)); replace HX := hid (HX.out.below hb); clear hr hO hg1 hg2 hln hb)
        go_wp2_with fail
        refine hK.out _ _ ?_ (fun hHeld => ?_)
        · exact ⟨HX.out.x.b.c0, HX.out.x.b.c1, HX.out.x.b.c2, HX.out.x.b.c3, HX.out.x.b.c4, HX.out.x.d.c0, HX.out.x.d.c1, HX.out.x.d.c2, HX.out.x.d.c3, HX.out.a.c0, HX.out.a.c1, HX.out.a.c2, HX.out.a.c3⟩
        clear hK K
        try simp only [Act.put, List.setIfInBounds_toArray, List.set_cons_zero, List.set_cons_succ]
        refine wpAnyH_ready (rs := [8]) (by kernel_rfl) (by simp) ?_
        refine AllReadyH.cons (o := { dst := some 39, op := Op.call { callee := Callee.value (Operand.func 55), args := #[Operand.tmp 35, Operand.tmp 36, Operand.tmp 37, Operand.tmp 38], argTypes := #[26, 23, 3, 3] }, type := 26, pos := "move.go:46", after := #[{ on := 4, ground := Ground.data }, { on := 5, ground := Ground.data }, { on := 6, ground := Ground.data }, { on := 7, ground := Ground.data }, { on := 4, ground := Ground.chain }], guard := none }) rfl (fun K hK => ?_) AllReadyH.nil
        go_simp
        (go_at_call 55; with_reducible refine Calls.mono (box_any (orN A) co cn cm cg coff (fun x y => atX B f (x - dx) (y - dy)) D rx ry _ HLc.out.1 HLc.out.2 HVc.out HBY.out HD.out.1 HD.out.2.1 HD.out.2.2.1 HD.out.2.2.2) ?_; rintro e wc ⟨hr, hb⟩; rw [HS.out] at hr; obtain ⟨eo, en, em, eg, eoff, rfl, hO, hg1, hg2, hln⟩ := retG hr; have HE := hid (And.intro (hO.mono HX.out.x.sz) hg2); (try (have HNE := hid (fun (_ : 0 < em) => ne_pre HA.out.2.1 hg1))); (try (replace HA := hid (And.intro HA.out.1 (And.intro (HA.out.2.1.below hb) HA.out.2.2)); clear y0 y1 y2 y3 y4 yf; obtain ⟨y0, y1, y2, y3, y4, yf⟩ := HA.out.2.1)); replace HX := hid (HX.out.below hb); clear hr hO hg1 hg2 hln hb)
        go_wp2_with fail
        refine hK.out _ _ ?_ (fun hHeld => ?_)
        · exact ⟨HX.out.x.b.c0, HX.out.x.b.c1, HX.out.x.b.c2, HX.out.x.b.c3, HX.out.x.b.c4, HX.out.x.d.c0, HX.out.x.d.c1, HX.out.x.d.c2, HX.out.x.d.c3, HX.out.a.c0, HX.out.a.c1, HX.out.a.c2, HX.out.a.c3⟩
        clear hK K
        try simp only [Act.put, List.setIfInBounds_toArray, List.set_cons_zero, List.set_cons_succ]
        refine wpAnyH_ready (rs := [10]) (by kernel_rfl) (by simp) ?_
        refine AllReadyH.cons (o := { dst := none, op := Op.store 26 (Operand.tmp 16) (Operand.tmp 39), type := 0, pos := "move.go:46", after := #[{ on := 9, ground := Ground.data }, { on := 8, ground := Ground.data }, { on := 8, ground := Ground.chain }, { on := 0, ground := Ground.phase }, { on := 1, ground := Ground.phase }, { on := 2, ground := Ground.phase }, { on := 3, ground := Ground.phase }, { on := 4, ground := Ground.phase }, { on := 5, ground := Ground.phase }, { on := 6, ground := Ground.phase }, { on := 7, ground := Ground.phase }, { on := 8, ground := Ground.phase }, { on := 9, ground := Ground.phase }], guard := none }) rfl (fun K hK => ?_) AllReadyH.nil
        go_simp
        refine hK.out _ _ ?_ (fun hHeld => ?_)
        · first
            | (have hXn := HX.out.but (but_set5 _ _ (.int .i64 (orN D).x0) (.int .i64 (orN D).y0) (.int .i64 (orN D).x1) (.int .i64 (orN D).y1) (.slice eo en em)) HA.out.1 HA.out.2.2; with_reducible exact ⟨hXn.x.b.c0, hXn.x.b.c1, hXn.x.b.c2, hXn.x.b.c3, hXn.x.b.c4, hXn.x.d.c0, hXn.x.d.c1, hXn.x.d.c2, hXn.x.d.c3, hXn.a.c0, hXn.a.c1, hXn.a.c2, hXn.a.c3⟩)
            | (have hXn := HXp.out.below ((Below.refl _ _).alloc (Nat.le_refl _) (.cells #[.int .i64 (orN D).x0, .int .i64 (orN D).y0, .int .i64 (orN D).x1, .int .i64 (orN D).y1, .slice eo en em] 26)); with_reducible exact ⟨hXn.x.b.c0, hXn.x.b.c1, hXn.x.b.c2, hXn.x.b.c3, hXn.x.b.c4, hXn.x.d.c0, hXn.x.d.c1, hXn.x.d.c2, hXn.x.d.c3, hXn.a.c0, hXn.a.c1, hXn.a.c2, hXn.a.c3⟩)
        clear hK K
        try simp only [Act.put, List.setIfInBounds_toArray, List.set_cons_zero, List.set_cons_succ]
        refine wpAnyH_done (by kernel_rfl) ?_ _
        go_wp2_with fail
        go_meet
        case rel =>
          first
            | with_reducible exact ⟨_, eo, en, em, eg, eoff, rfl, (HX.out.but (but_set5 _ _ (.int .i64 (orN D).x0) (.int .i64 (orN D).y0) (.int .i64 (orN D).x1) (.int .i64 (orN D).y1) (.slice eo en em)) HA.out.1 HA.out.2.2).x, has5_set HA.out.2.1 (orN D).x0 (orN D).y0 (orN D).x1 (orN D).y1 eo en em, HE.out.1.but (but_set5 _ _ (.int .i64 (orN D).x0) (.int .i64 (orN D).y0) (.int .i64 (orN D).x1) (.int .i64 (orN D).y1) (.slice eo en em)) (fun h => Ne.symm (HNE.out h)), HA.out.1, HNE.out⟩
            | with_reducible exact ⟨_, eo, en, em, eg, eoff, rfl, (HXp.out.below ((Below.refl _ _).alloc (Nat.le_refl _) (.cells #[.int .i64 (orN D).x0, .int .i64 (orN D).y0, .int .i64 (orN D).x1, .int .i64 (orN D).y1, .slice eo en em] 26))).x, Has5.new rfl _ _ _ _ _ _ _ _, HEp.out.1.below ((Below.refl _ _).alloc (Nat.le_refl _) (.cells #[.int .i64 (orN D).x0, .int .i64 (orN D).y0, .int .i64 (orN D).x1, .int .i64 (orN D).y1, .slice eo en em] 26)), HXp.out.x.sz, HNE.out⟩
    case rest =>
      obtain ⟨k16, eo, en, em, eg', eoff, rfl, hX, hH, hO, hk, hne⟩ := hcut
      obtain ⟨w5, rfl⟩ : ∃ w5, w5 = wc := ⟨_, rfl⟩
      obtain ⟨eg, hO2, hg1, hg2⟩ := ox_half hO (fun k => k16 ≠ k ∧ (w.heap.size + 1 + 1 + 1 + 1) ≤ k) (fun h => ⟨hne h, (hO.new h).1⟩) (fun k hk5 => ⟨by have := hH.lt; omega, Nat.le_trans hX.sz hk5⟩)
      have hen : wid (orN D) * hei (orN D) = en := by have := vx_len hO.v; rw [img_len] at this; exact this
      have HEN : Hid (bufB (orN D) en = true ∧ en ≤ 5000) := by rw [← hen]; exact hid HQ.out
      have hen5 : en ≤ 5000 := HEN.out.2
      have HL : Hid (Sl w B D p ao n m k16 eo en em eg eoff (halfL (img (orN D) (softX B f dx dy rx ry)) (fun q => scaleX p q.c3) 0) w5) := by rw [half_0]; exact hid ⟨hX, hH, hO2, hk, hg2, hg1⟩
      have HLEN : Hid ((img (orN D) (softX B f dx dy rx ry)).length = en) := hid (vx_len hO.v)
      clear hX hH hO hk hne hO2 hg1 hg2 hen HX HS HQ HAO HMM HMV HGR
      obtain ⟨h0, h1, h2, h3, h4, hf⟩ := HL.out.h
      go_wp2
      clear h0 h1 h2 h3 h4 hf
      go_loopg [43] en (fun gh v43 wr => ∃ i : Nat, i ≤ en ∧ gh = en - i ∧ v43 = .int .i64 (i : Int) ∧ Sl w B D p ao n m k16 eo en em eg eoff (halfL (img (orN D) (softX B f dx dy rx ry)) (fun q => scaleX p q.c3) i) wr)
      case atStart => exact ⟨0, Nat.zero_le _, rfl, rfl, HL.out⟩
      case round =>
        clear HL
        obtain ⟨i, hi, rfl, rfl, hL⟩ := hrel
        have HL := hid hL
        by_cases hil : i < en
        · have hiz : (i : Int) < (en : Int) := by omega
          obtain ⟨s, hs⟩ : ∃ s, (img (orN D) (softX B f dx dy rx ry))[i]? = some s := ⟨_, List.getElem?_eq_getElem (by have := HLEN.out; omega)⟩
          have hh := half_at (s := fun q => scaleX p q.c3) hs
          have HH := hid hh
          have HST := hid (half_step (s := fun q => scaleX p q.c3) hs)
          obtain ⟨rfl, c0, c1, c2, c3⟩ := vx_at hL.o.v hh
          have hsb : byteX s := by
            obtain ⟨x, y, hxy⟩ := img_mem (List.mem_of_getElem? hs)
            rw [hxy]
            exact soft_byte HBB.out.1 _ _ _ _ _ _
          have HSB : Hid (0 ≤ s.c3 ∧ s.c3 ≤ 255) := hid hsb.2.2.2
          obtain ⟨h0, h1, h2, h3, h4, hf⟩ := hL.h
          clear hL hs hh hsb
          go_wp2
          have HL1 : Hid (Sl w B D p ao n m k16 (some ⟨eg, eoff, none⟩) en em eg eoff (halfL (img (orN D) (softX B f dx dy rx ry)) (fun q => scaleX p q.c3) i) (wr.alloc (.cells #[.int .u8 s.c0, .int .u8 s.c1, .int .u8 s.c2, .int .u8 s.c3] 28)) ∧ Rc.Has4 (wr.alloc (.cells #[.int .u8 s.c0, .int .u8 s.c1, .int .u8 s.c2, .int .u8 s.c3] 28)) wr.heap.size (.int .u8 s.c0) (.int .u8 s.c1) (.int .u8 s.c2) (.int .u8 s.c3)) := hid ⟨HL.out.below ((Below.refl _ _).alloc (Nat.le_refl _) _), Rc.Has4.new rfl _ _ _ _ _⟩
          clear c0 c1 c2 c3 HL h0 h1 h2 h3 h4 hf
          generalize wr.alloc (.cells #[.int .u8 s.c0, .int .u8 s.c1, .int .u8 s.c2, .int .u8 s.c3] 28) = wr1 at HL1 ⊢
          generalize wr.heap.size = k18 at HL1 ⊢
          obtain ⟨e0, e1, e2, e3, ef⟩ := HL1.out.2
          obtain ⟨h0, h1, h2, h3, h4, hf⟩ := HL1.out.1.h
          obtain ⟨q0, q1, q2, q3, qf⟩ := HL1.out.1.x.q
          obtain ⟨⟨c0, c1, c2, c3⟩, z0, z1, z2, z3⟩ := ox_px HL1.out.1.o HH.out
          go_region_with (go_at_call 56; with_reducible refine Calls.mono (scale4 p s.c3 _ HBB.out.2 HSB.out) ?_; rintro e w6 ⟨rfl, hb6⟩; have HL2 := hid (HL1.out.1.below (Rc.via (Below.refl _ _).drew hb6)); clear hb6 c0 c1 c2 c3 z0 z1 z2 z3 e0 e1 e2 e3 ef h0 h1 h2 h3 h4 hf q0 q1 q2 q3 qf; obtain ⟨⟨c0, c1, c2, c3⟩, z0, z1, z2, z3⟩ := ox_px HL2.out.o HH.out; obtain ⟨h0, h1, h2, h3, h4, hf⟩ := HL2.out.h)
          all_goals
            go_wp2
            go_roundg (en - (i + 1))
            case measure => omega
            case rel =>
              have h1 := ox_put HL2.out.o (s := i) (news := [scaleX p s.c3]) (by simp; omega)
              have h2 := but_cells eg (eoff + i * 4) (flat [scaleX p s.c3]) w6
              rw [HST.out] at h1
              exact ⟨i + 1, by omega, rfl, by simp, HL2.out.to h2 h1⟩
        · obtain rfl : en = i := by omega
          have HO : Hid (Ox (w.heap.size + 1 + 1 + 1 + 1) wr eo en em eg eoff (img (orN D) (fun x y => scaleX p ((softX B f dx dy rx ry) x y).c3))) := by
            have h1 := hL.o
            rw [half_all _ _ _ (by have := HLEN.out; omega), map_img] at h1
            exact hid h1
          have HF : Hid (∀ x y, byteX (scaleX p ((softX B f dx dy rx ry) x y).c3)) := hid (fun x y => scale_byte HBB.out.2 (soft_byte HBB.out.1 _ _ _ _ _ _).2.2.2)
          have HVw : Hid (Vx wr ao n m g off (img B f)) := hid (HV.out.below hL.x.low)
          have HNE : Hid (0 < em → 0 < n → g ≠ eg) := hid (fun _ hn0 => by have := vx_lt HV.out hn0; have := hL.g; omega)
          obtain ⟨h0, h1, h2, h3, h4, hf⟩ := hL.h
          obtain ⟨b0, b1, b2, b3, b4, bf⟩ := hL.x.b
          clear hL
          go_wp2_with (go_at_call 57; with_reducible refine Calls.mono (lay_any (w.heap.size + 1 + 1 + 1 + 1) eg eoff en em eo (orN D) (fun x y => scaleX p ((softX B f dx dy rx ry) x y).c3) B ao n m g off f _ HEN.out.2 HEN.out.1 HO.out HF.out HB.out.1 HB.out.2.1 HVw.out HBB.out.1 HNE.out) ?_; rintro e w7 ⟨rfl, hO, hbu⟩; have HL7 := hid (HL.out.to hbu hO); clear hO hbu h0 h1 h2 h3 h4 hf b0 b1 b2 b3 b4 bf; obtain ⟨h0, h1, h2, h3, h4, hf⟩ := HL7.out.h; obtain ⟨z0, z1, z2, z3, z4, zf⟩ := HL7.out.x.z)
          obtain ⟨s0, s1, s2, s3, s4⟩ := set5 z0 z1 z2 z3 z4 (.int .i64 (orN D).x0) (.int .i64 (orN D).y0) (.int .i64 (orN D).x1) (.int .i64 (orN D).y1) (.slice eo en em)
          refine bodyPost_ret (v := .agg #[.int .i64 (orN D).x0, .int .i64 (orN D).y0, .int .i64 (orN D).x1, .int .i64 (orN D).y1, .slice eo en em]) (by simp [results, Try.results27, go_sem, s0, s1, s2, s3, s4]) rfl ⟨⟨_, _, _, eg, eoff, rfl, ?_⟩, ?_⟩
          · exact (HL7.out.o.mono (by omega)).but (but_set5 _ _ _ _ _ _ _) (fun _ => by have := HL7.out.g; omega)
          · exact below_set5 HL7.out.x.low (by omega) _ _ _ _ _
end Go.Proofs.Ytfgfgfmimejpdaa
/- The document's blurred box, as plain numbers; small boxes. -/
namespace Go.Proofs.Ytfgfgfmimejpdaa
open Num Go.RowKit
set_option linter.unusedVariables false
set_option linter.unusedSimpArgs false

def Wide (r : R) : Prop := (-134217728 ≤ r.x0 ∧ r.x0 ≤ 134217728) ∧ (-134217728 ≤ r.y0 ∧ r.y0 ≤ 134217728) ∧ (-134217728 ≤ r.x1 ∧ r.x1 ≤ 134217728) ∧ (-134217728 ≤ r.y1 ∧ r.y1 ≤ 134217728)
theorem Wide.ok {r : R} (h : Wide r) : Ok r := by unfold Wide at h; unfold Ok; omega
theorem half_orNW {r : R} (h : Wide r) : Wide (orN r) := by
  rcases orN_or r with e | e <;> rw [e]
  · unfold Wide nil; decide
  · exact h
/-- a box with the rows that are wanted above and below -/
theorem grow_areaW {Z : R} {rx ry : Nat} (hZ : Wide Z) (hx : rx ≤ 255) (hy : ry ≤ 255) : area Z ≤ area (grow Z (rx : Int) (ry : Int) (rx : Int) (ry : Int)) := by
  rcases eZ : empB Z with _ | _
  · obtain ⟨z1, z2⟩ := of_some eZ
    unfold grow
    rw [if_neg (by rw [eZ]; simp)]
    unfold cutR
    unfold Wide at hZ
    rw [orN_no (emp_no (by dsimp only; unfold cutN mx mn; omega) (by dsimp only; unfold cutN mx mn; omega))]
    apply area_in
    dsimp only
    unfold cutN
    unfold mx mn at *
    omega
  · rw [area_no eZ]
    exact (area_bd _).1

/-- rows, or none -/
theorem growYW {D : R} {ry : Nat} (hD : Wide D) (hy : ry ≤ 255) : orN (grow D 0 (ry : Int) 0 (ry : Int)) = grow D 0 (ry : Int) 0 (ry : Int) ∧ Ok (grow D 0 (ry : Int) 0 (ry : Int)) ∧ (empB D = false → grow D 0 (ry : Int) 0 (ry : Int) = ⟨D.x0, D.y0 - (ry : Int), D.x1, D.y1 + (ry : Int)⟩) ∧ (empB D = true → grow D 0 (ry : Int) 0 (ry : Int) = nil) := by
  rcases eD : empB D with _ | _
  · obtain ⟨d1, d2⟩ := of_some eD
    have e : grow D 0 (ry : Int) 0 (ry : Int) = ⟨D.x0, D.y0 - (ry : Int), D.x1, D.y1 + (ry : Int)⟩ := by
      unfold grow
      rw [if_neg (by rw [eD]; simp)]
      unfold cutR
      unfold Wide at hD
      rw [orN_no (emp_no (by dsimp only; unfold cutN mx mn; omega) (by dsimp only; unfold cutN mx mn; omega))]
      apply R_ext <;> dsimp only <;> unfold cutN mx mn <;> omega
    rw [e]
    refine ⟨orN_no (emp_no d1 (by dsimp only; omega)), ?_, fun _ => rfl, (fun h => by cases h)⟩
    unfold Wide at hD
    unfold Ok
    dsimp only
    omega
  · have e : grow D 0 (ry : Int) 0 (ry : Int) = nil := by unfold grow; rw [if_pos eD]
    rw [e]
    exact ⟨rfl, ok_nil, (fun h => by cases h), fun _ => rfl⟩
theorem growY_areaW {D : R} {rx ry : Nat} (hD : Wide D) (hx : rx ≤ 255) (hy : ry ≤ 255) : area (grow D 0 (ry : Int) 0 (ry : Int)) ≤ area (grow D (rx : Int) (ry : Int) (rx : Int) (ry : Int)) := by
  obtain ⟨-, -, h3, h4⟩ := growYW (ry := ry) hD hy
  rcases eD : empB D with _ | _
  · obtain ⟨d1, d2⟩ := of_some eD
    rw [h3 eD]
    unfold grow
    rw [if_neg (by rw [eD]; simp)]
    unfold cutR
    unfold Wide at hD
    rw [orN_no (emp_no (by dsimp only; unfold cutN mx mn; omega) (by dsimp only; unfold cutN mx mn; omega))]
    apply area_in
    dsimp only
    unfold cutN
    unfold mx mn at *
    omega
  · rw [h4 eD, area_nil]
    exact (area_bd _).1
theorem refbox_imgW {D : R} {ry : Nat} (hD : Wide D) (hy : ry ≤ 255) (u : Int → Int → X) : img (orN D) (colG (atX (grow D 0 (ry : Int) 0 (ry : Int)) u) ry) = img (orN D) (colG u ry) := by
  obtain ⟨-, -, h3, h4⟩ := growYW (ry := ry) hD hy
  rcases eD : empB D with _ | _
  · rw [orN_no eD, h3 eD]
    apply img_ext
    intro x y hb
    have hb := of_decide_eq_true hb
    apply col_ext
    intro v h1 h2
    unfold atX
    rw [if_pos (show hasB _ x v = true from decide_eq_true (by dsimp only; omega))]
  · rw [orN_yes eD]
    rfl
end Go.Proofs.Ytfgfgfmimejpdaa
/- The document's blurred box: the contract. -/
namespace Go.Proofs.Ytfgfgfmimejpdaa
open Num Go.RowKit
set_option linter.unusedVariables false
set_option linter.unusedSimpArgs false

set_option maxRecDepth 100000 in
set_option maxHeartbeats 4000000 in
theorem refBox_anyW (B : R) (ao : Option Addr) (n m g off : Nat) (f : Int → Int → X) (D : R) (rx ry : Nat) (w : World) (hBo : Ok B) (hn : n ≤ 5000) (hV : Vx w ao n m g off (img B f)) (hb : ∀ x y, byteX (f x y)) (hD : Wide D) (ha : area (grow D (rx : Int) (ry : Int) (rx : Int) (ry : Int)) ≤ 5000) (hx : rx ≤ 255) (hy : ry ≤ 255) :
    Calls Try.prog 58 #[.agg #[.int .i64 B.x0, .int .i64 B.y0, .int .i64 B.x1, .int .i64 B.y1, .slice ao n m], .agg #[.int .i64 D.x0, .int .i64 D.y0, .int .i64 D.x1, .int .i64 D.y1], .int .i64 (rx : Int), .int .i64 (ry : Int)] w fun e w' => RetB w.heap.size w' e (orN D) (img (orN D) (blurG (atX B f) rx ry)) ∧ Below w.heap.size w w' := by
  obtain ⟨E, hE⟩ : ∃ E, E = grow D 0 (ry : Int) 0 (ry : Int) := ⟨_, rfl⟩
  have HE : Hid (grow ⟨D.x0, D.y0, D.x1, D.y1⟩ 0 (ry : Int) 0 (ry : Int) = E) := hE.symm
  obtain ⟨g1, g2, g3, g4⟩ := growYW (D := D) (ry := ry) hD hy
  have HG : Hid (orN E = E ∧ Ok E ∧ area E ≤ 5000 ∧ wid E * hei E ≤ 5000) := by
    rw [← hE] at g1 g2
    have h3 : area E ≤ 5000 := by rw [hE]; exact Int.le_trans (growY_areaW hD hx hy) ha
    refine ⟨g1, g2, h3, ?_⟩
    have := buf_new g2 h3
    rw [g1] at this
    exact this.2.1
  have HI : Hid (img (orN D) (colG (atX E (rowG (atX B f) rx)) ry) = img (orN D) (blurG (atX B f) rx ry)) := by rw [hE]; exact refbox_imgW hD hy _
  have HDA : Hid (area D ≤ 5000) := Int.le_trans (grow_areaW hD hx hy) ha
  have HC : Hid (((0 : Int) ≤ 0 ∧ (0 : Int) ≤ 4398046511104) ∧ ((0 : Int) ≤ (ry : Int) ∧ (ry : Int) ≤ 4398046511104)) := ⟨by omega, by omega⟩
  have HBY : Hid (∀ x y, byteX (rowG (atX B f) rx x y)) := fun x y => row_byte (fun a b => at_byte hb a b) rx x y
  have HH := hid (And.intro hV (And.intro hBo (And.intro hD.ok hb)))
  obtain ⟨W0, hW0⟩ : ∃ W0, W0 = ((w.alloc (.cells #[.int .i64 B.x0, .int .i64 B.y0, .int .i64 B.x1, .int .i64 B.y1, .slice ao n m] 26)).alloc (.cells #[.int .i64 D.x0, .int .i64 D.y0, .int .i64 D.x1, .int .i64 D.y1] 23)).alloc (.cells #[.int .i64 0, .int .i64 0, .int .i64 0, .int .i64 0, .slice none 0 0] 26) := ⟨_, rfl⟩
  have HA : Hid (Has5 W0 w.heap.size B ao n m ∧ Rc.Has4 W0 (w.heap.size + 1) (.int .i64 D.x0) (.int .i64 D.y0) (.int .i64 D.x1) (.int .i64 D.y1) ∧ Has5 W0 (w.heap.size + 1 + 1) ⟨0, 0, 0, 0⟩ none 0 0 ∧ Below w.heap.size w W0) := by
    subst hW0
    exact ⟨((Has5.new rfl _ _ _ _ _ _ _ _).alloc _).alloc _, (Rc.Has4.new (by simp) _ _ _ _ _).alloc _, Has5.new (by simp) _ _ _ _ _ _ _ _, (((Below.refl _ _).alloc (Nat.le_refl _) _).alloc (by simp) _).alloc (by simp; omega) _⟩
  clear hE g1 g2 g3 g4 hV hBo hb hD ha
  go_enter Try.func58, Try.ntmps58
  go_wp2
  rw [← hW0]
  clear hW0
  have hS : S9c w.heap.size (w.heap.size + 1) B D (.slice ao n m) W0 := ⟨HA.out.1.c0, HA.out.1.c1, HA.out.1.c2, HA.out.1.c3, HA.out.1.c4, HA.out.2.1.c0, HA.out.2.1.c1, HA.out.2.1.c2, HA.out.2.1.c3⟩
  go_region_held3 (fun w' => w'.cell? ⟨w.heap.size, 0, none⟩ = some (.int .i64 B.x0) ∧ w'.cell? ⟨w.heap.size, 1, none⟩ = some (.int .i64 B.y0) ∧ w'.cell? ⟨w.heap.size, 2, none⟩ = some (.int .i64 B.x1) ∧ w'.cell? ⟨w.heap.size, 3, none⟩ = some (.int .i64 B.y1) ∧ w'.cell? ⟨w.heap.size, 4, none⟩ = some (.slice ao n m) ∧ w'.cell? ⟨(w.heap.size + 1), 0, none⟩ = some (.int .i64 D.x0) ∧ w'.cell? ⟨(w.heap.size + 1), 1, none⟩ = some (.int .i64 D.y0) ∧ w'.cell? ⟨(w.heap.size + 1), 2, none⟩ = some (.int .i64 D.x1) ∧ w'.cell? ⟨(w.heap.size + 1), 3, none⟩ = some (.int .i64 D.y1)) (repeat (first | with_reducible assumption | with_reducible refine s9c_drew ?_ | with_reducible refine s9c_set5 ?_ (by omega) (by omega) | with_reducible refine s9c_below ?_ ‹_›))
    ((first
    | (go_at_call 53; with_reducible refine Calls.mono (Rc.refGrow_any D.x0 D.y0 D.x1 D.y1 0 (ry : Int) 0 (ry : Int) _ HH.out.2.2.1 HC.out.1 HC.out.2 HC.out.1 HC.out.2) ?_; rintro e w1 ⟨rfl, hb1⟩; rw [HE.out]; have HB1 := hid (Rc.via HA.out.2.2.2.drew hb1); have HZ1 := hid ((HA.out.2.2.1.below (Below.refl _ _).drew).below hb1))
    | (go_at_call 78; with_reducible refine Calls.mono (alongX_any B ao n m g off f E rx _ HH.out.2.1 hn (HH.out.1.below HB1.out) HH.out.2.2.2 HG.out.2.1 HG.out.2.2.1 hx) ?_; rintro e w2 ⟨hr, hb2⟩; rw [HG.out.1] at hr; obtain ⟨ro, rn, rm, rg, roff, rfl, hO, hg1, hg2, hln⟩ := retG hr; rw [img_len] at hln; have HLN := hid hln; have HO2 := hid hO; have HB2 := hid (Rc.via HB1.out hb2); have HZ2 := hid (HZ1.out.below hb2); clear hr hO hg1 hg2 hln)
    | (go_at_call 78; with_reducible refine Calls.mono (alongY_any E ro rn rm rg roff (rowG (atX B f) rx) D ry _ HG.out.2.1 (HLN.out ▸ HG.out.2.2.2) HO2.out.v HBY.out HH.out.2.2.1 HDA.out hy) ?_; rintro e w3 ⟨hr, hb3⟩; obtain ⟨to5, tn, tm, tg, toff, rfl, hO, hg1, hg2, hln⟩ := retG hr; have HO3 := hid (And.intro hO hg1); have HB3 := hid (Rc.via HB2.out hb3); have HZ3 := hid (HZ2.out.below hb3); have hz3 := HZ2.out.lt; clear hr hO hg1 hg2 hln; obtain ⟨z0, z1, z2, z3, z4, zf⟩ := HZ3.out)))
  go_wp2
  obtain ⟨s0, s1, s2, s3, s4⟩ := set5 z0 z1 z2 z3 z4 (.int .i64 (orN D).x0) (.int .i64 (orN D).y0) (.int .i64 (orN D).x1) (.int .i64 (orN D).y1) (.slice to5 tn tm)
  refine bodyPost_ret (v := .agg #[.int .i64 (orN D).x0, .int .i64 (orN D).y0, .int .i64 (orN D).x1, .int .i64 (orN D).y1, .slice to5 tn tm]) (by simp [results, Try.results58, go_sem, s0, s1, s2, s3, s4]) rfl ⟨⟨_, _, _, tg, toff, rfl, ?_⟩, ?_⟩
  · have hlo := HB2.out.size
    rw [← HI.out]
    exact (HO3.out.1.but (but_set5 _ _ _ _ _ _ _) (fun _ => by have := HO3.out.2; omega)).mono hlo
  · exact below_set5 HB3.out (by omega) _ _ _ _ _
end Go.Proofs.Ytfgfgfmimejpdaa
/- One buffer on top of another: the contract of the document. -/
namespace Go.Proofs.Ytfgfgfmimejpdaa
open Num Go.RowKit
set_option linter.unusedVariables false
set_option linter.unusedSimpArgs false

theorem refOver4 (a0 a1 a2 a3 b0 b1 b2 b3 : Int) (w : World) (ha : byteX ⟨a0, a1, a2, a3⟩) (hb : byteX ⟨b0, b1, b2, b3⟩) : Calls Try.prog 80 #[.int .i64 0, .agg #[.int .u8 a0, .int .u8 a1, .int .u8 a2, .int .u8 a3], .agg #[.int .u8 b0, .int .u8 b1, .int .u8 b2, .int .u8 b3]] w fun e w' => e = .returned (pxV (overX ⟨a0, a1, a2, a3⟩ ⟨b0, b1, b2, b3⟩)) ∧ Below w.heap.size w w' := refOver_any ⟨a0, a1, a2, a3⟩ ⟨b0, b1, b2, b3⟩ w ha hb
/-- what is handed in stands -/
structure Ow (k : Nat) (A B D : R) (ao : Option Addr) (n m : Nat) (bo : Option Addr) (bn bm : Nat) (w : World) : Prop where
  a : Has5 w k A ao n m
  b : Has5 w (k + 1) B bo bn bm
  d : Rc.Has4 w (k + 1 + 1) (.int .i64 D.x0) (.int .i64 D.y0) (.int .i64 D.x1) (.int .i64 D.y1)
  z : Has5 w (k + 1 + 1 + 1) ⟨0, 0, 0, 0⟩ none 0 0
section
variable {k : Nat} {A B D : R} {ao : Option Addr} {n m : Nat} {bo : Option Addr} {bn bm : Nat} {w w' : World}
theorem Ow.below (h : Ow k A B D ao n m bo bn bm w) (hb : Below w.heap.size w w') : Ow k A B D ao n m bo bn bm w' := ⟨h.a.below hb, h.b.below hb, h.d.below hb, h.z.below hb⟩
theorem Ow.low (h : Ow k A B D ao n m bo bn bm w) {lo : Nat} (hb : Below lo w w') (hl : k + 1 + 1 + 1 < lo) : Ow k A B D ao n m bo bn bm w' := ⟨has5_low h.a hb (by omega), has5_low h.b hb (by omega), has4_low h.d hb (by omega), has5_low h.z hb hl⟩
theorem Ow.but (h : Ow k A B D ao n m bo bn bm w) (hb : But (k + 1 + 1 + 1 + 1) w w') : Ow k A B D ao n m bo bn bm w' := ⟨h.a.but hb (by omega), h.b.but hb (by omega), has4_but h.d hb (by omega), h.z.but hb (by omega)⟩
end
abbrev O10 (s : Nat) (A B : R) (v u : Value) (w' : World) : Prop := w'.cell? ⟨s, 0, none⟩ = some (.int .i64 A.x0) ∧ w'.cell? ⟨s, 1, none⟩ = some (.int .i64 A.y0) ∧ w'.cell? ⟨s, 2, none⟩ = some (.int .i64 A.x1) ∧ w'.cell? ⟨s, 3, none⟩ = some (.int .i64 A.y1) ∧ w'.cell? ⟨s, 4, none⟩ = some (v) ∧ w'.cell? ⟨(s + 1), 0, none⟩ = some (.int .i64 B.x0) ∧ w'.cell? ⟨(s + 1), 1, none⟩ = some (.int .i64 B.y0) ∧ w'.cell? ⟨(s + 1), 2, none⟩ = some (.int .i64 B.x1) ∧ w'.cell? ⟨(s + 1), 3, none⟩ = some (.int .i64 B.y1) ∧ w'.cell? ⟨(s + 1), 4, none⟩ = some (u)
theorem O10_block {s : Nat} {A B : R} {v u : Value} {w1 w2 : World} (h : O10 s A B v u w1) (e0 : s < w1.heap.size → w2.heap[s]? = w1.heap[s]?) (e1 : (s + 1) < w1.heap.size → w2.heap[(s + 1)]? = w1.heap[(s + 1)]?) : O10 s A B v u w2 := by
  obtain ⟨c0, c1, c2, c3, c4, c5, c6, c7, c8, c9⟩ := h
  have e0 := fun o => World.cell?_of_block (a := ⟨s, o, none⟩) (e0 (World.block_lt_of_cell? w1 ⟨s, 0, none⟩ c0))
  have e1 := fun o => World.cell?_of_block (a := ⟨(s + 1), o, none⟩) (e1 (World.block_lt_of_cell? w1 ⟨(s + 1), 0, none⟩ c5))
  exact ⟨by rw [e0]; exact c0, by rw [e0]; exact c1, by rw [e0]; exact c2, by rw [e0]; exact c3, by rw [e0]; exact c4, by rw [e1]; exact c5, by rw [e1]; exact c6, by rw [e1]; exact c7, by rw [e1]; exact c8, by rw [e1]; exact c9⟩
theorem O10_below {s : Nat} {A B : R} {v u : Value} {w1 w2 : World} (h : O10 s A B v u w1) (hb : Below w1.heap.size w1 w2) : O10 s A B v u w2 := O10_block h (fun l => hb.block _ l) (fun l => hb.block _ l)
theorem O10_drew {s : Nat} {A B : R} {v u : Value} {w1 : World} (h : O10 s A B v u w1) : O10 s A B v u w1.drew := O10_below h (Below.refl _ _).drew
theorem O10_alloc {s : Nat} {A B : R} {v u : Value} {w1 : World} {o : Obj} (h : O10 s A B v u w1) : O10 s A B v u (w1.alloc o) := O10_below h ((Below.refl _ _).alloc (Nat.le_refl _) _)
theorem O10_but {s : Nat} {A B : R} {v u : Value} {g : Nat} {w1 w2 : World} (h : O10 s A B v u w1) (hb : But g w1 w2) (h0 : s ≠ g) (h1 : (s + 1) ≠ g) : O10 s A B v u w2 := O10_block h (fun l => hb.block _ l h0) (fun l => hb.block _ l h1)
theorem O10_set5 {s : Nat} {A B : R} {v u : Value} {j : Nat} {w1 : World} {v0 v1 v2 v3 v4 : Value} (h : O10 s A B v u w1) (h0 : s ≠ j) (h1 : (s + 1) ≠ j) : O10 s A B v u (((((w1.setCell ⟨j, 0, none⟩ v0).setCell ⟨j, 1, none⟩ v1).setCell ⟨j, 2, none⟩ v2).setCell ⟨j, 3, none⟩ v3).setCell ⟨j, 4, none⟩ v4) := O10_but h (but_set5 w1 j v0 v1 v2 v3 v4) h0 h1
theorem O10_set4 {s : Nat} {A B : R} {v u : Value} {j : Nat} {w1 : World} {v0 v1 v2 v3 : Value} (h : O10 s A B v u w1) (h0 : s ≠ j) (h1 : (s + 1) ≠ j) : O10 s A B v u ((((w1.setCell ⟨j, 0, none⟩ v0).setCell ⟨j, 1, none⟩ v1).setCell ⟨j, 2, none⟩ v2).setCell ⟨j, 3, none⟩ v3) := O10_but h (but_set4 w1 j v0 v1 v2 v3) h0 h1

set_option maxRecDepth 100000 in
set_option maxHeartbeats 8000000 in
theorem refOverB_any (A : R) (ao : Option Addr) (n m g off : Nat) (f : Int → Int → X) (B : R) (bo : Option Addr) (bn bm bg boff : Nat) (h : Int → Int → X) (D : R) (w : World) (hAo : Ok A) (hn : n ≤ 5000) (hV : Vx w ao n m g off (img A f)) (hf : ∀ x y, byteX (f x y)) (hBo : Ok B) (hbn : bn ≤ 5000) (hVb : Vx w bo bn bm bg boff (img B h)) (hh : ∀ x y, byteX (h x y)) (hD : Ok D) (ha : area D ≤ 5000) :
    Calls Try.prog 60 #[.agg #[.int .i64 A.x0, .int .i64 A.y0, .int .i64 A.x1, .int .i64 A.y1, .slice ao n m], .agg #[.int .i64 B.x0, .int .i64 B.y0, .int .i64 B.x1, .int .i64 B.y1, .slice bo bn bm], .agg #[.int .i64 D.x0, .int .i64 D.y0, .int .i64 D.x1, .int .i64 D.y1]] w fun e w' => RetB w.heap.size w' e (orN D) (img (orN D) (fun x y => overX (atX A f x y) (atX B h x y))) ∧ Below w.heap.size w w' := by
  have HW : Hid (Ow w.heap.size A B D ao n m bo bn bm ((((((w.alloc (.cells #[.int .i64 A.x0, .int .i64 A.y0, .int .i64 A.x1, .int .i64 A.y1, .slice ao n m] 26)).alloc (.cells #[.int .i64 B.x0, .int .i64 B.y0, .int .i64 B.x1, .int .i64 B.y1, .slice bo bn bm] 26)).alloc (.cells #[.int .i64 D.x0, .int .i64 D.y0, .int .i64 D.x1, .int .i64 D.y1] 23)).alloc (.cells #[.int .i64 0, .int .i64 0, .int .i64 0, .int .i64 0, .slice none 0 0] 26)).alloc (.cells #[.int .i64 0, .int .i64 0, .int .i64 0, .int .i64 0, .slice none 0 0] 26))) ∧ Has5 ((((((w.alloc (.cells #[.int .i64 A.x0, .int .i64 A.y0, .int .i64 A.x1, .int .i64 A.y1, .slice ao n m] 26)).alloc (.cells #[.int .i64 B.x0, .int .i64 B.y0, .int .i64 B.x1, .int .i64 B.y1, .slice bo bn bm] 26)).alloc (.cells #[.int .i64 D.x0, .int .i64 D.y0, .int .i64 D.x1, .int .i64 D.y1] 23)).alloc (.cells #[.int .i64 0, .int .i64 0, .int .i64 0, .int .i64 0, .slice none 0 0] 26)).alloc (.cells #[.int .i64 0, .int .i64 0, .int .i64 0, .int .i64 0, .slice none 0 0] 26))) (w.heap.size + 1 + 1 + 1 + 1) ⟨0, 0, 0, 0⟩ none 0 0 ∧ Below w.heap.size w ((((((w.alloc (.cells #[.int .i64 A.x0, .int .i64 A.y0, .int .i64 A.x1, .int .i64 A.y1, .slice ao n m] 26)).alloc (.cells #[.int .i64 B.x0, .int .i64 B.y0, .int .i64 B.x1, .int .i64 B.y1, .slice bo bn bm] 26)).alloc (.cells #[.int .i64 D.x0, .int .i64 D.y0, .int .i64 D.x1, .int .i64 D.y1] 23)).alloc (.cells #[.int .i64 0, .int .i64 0, .int .i64 0, .int .i64 0, .slice none 0 0] 26)).alloc (.cells #[.int .i64 0, .int .i64 0, .int .i64 0, .int .i64 0, .slice none 0 0] 26)))) :=
    ⟨⟨((((Has5.new rfl _ _ _ _ _ _ _ _).alloc _).alloc _).alloc _).alloc _, (((Has5.new (by simp) _ _ _ _ _ _ _ _).alloc _).alloc _).alloc _, ((Rc.Has4.new (by simp) _ _ _ _ _).alloc _).alloc _, (Has5.new (by simp) _ _ _ _ _ _ _ _).alloc _⟩, Has5.new (by simp) _ _ _ _ _ _ _ _, (((((Below.refl _ _).alloc (Nat.le_refl _) _).alloc (by simp) _).alloc (by simp; omega) _).alloc (by simp; omega) _).alloc (by simp; omega) _⟩
  have HH := hid (And.intro hV (And.intro hAo (And.intro hVb (And.intro hBo (And.intro (show ∀ x y, byteX (atX A f x y) from at_byte hf) (show ∀ x y, byteX (atX B h x y) from at_byte hh))))))
  have HLO : Hid (w.heap.size + 1 + 1 + 1 < w.heap.size + 1 + 1 + 1 + 1) := by show _ < _; omega

  obtain ⟨G, hG⟩ : ∃ G, G = (fun x y => overX (atX A f x y) (atX B h x y)) := ⟨_, rfl⟩
  rw [← hG]
  have HGG := hid hG
  obtain ⟨d0, d1, d2, d3, df⟩ := HW.out.1.d
  rcases he : empB D with _ | _
  · obtain ⟨x01, y01⟩ := of_some he
    have ha' := ha
    obtain ⟨-, s5, -⟩ := size_of hD he ha'
    rw [orN_no he]
    have HE : Hid (empB ⟨D.x0, D.y0, D.x1, D.y1⟩ = false) := he
    have hDo := hD
    obtain ⟨⟨i0, i1⟩, ⟨i2, i3⟩, ⟨i4, i5⟩, i6, i7⟩ := hDo
    clear hV hAo hBo hVb hf hh ha ha' he hG hD
    go_enter Try.func60, Try.ntmps60
    go_wp2_with (go_at_call 15; with_reducible refine Calls.mono (Rc.refEmpty_any D.x0 D.y0 D.x1 D.y1 _) ?_; rintro e w1 ⟨rfl, hb1⟩; rw [HE.out]; have HW1 := hid (And.intro (HW.out.1.below hb1) (And.intro (HW.out.2.1.below hb1) (Rc.via HW.out.2.2 hb1))); clear hb1 d0 d1 d2 d3 df; obtain ⟨d0, d1, d2, d3, df⟩ := HW1.out.1.d; obtain ⟨o0, o1, o2, o3, o4, of4⟩ := HW1.out.2.1)
    have hbs := but_set4 w1 (w.heap.size + 1 + 1 + 1 + 1) (.int .i64 D.x0) (.int .i64 D.y0) (.int .i64 D.x1) (.int .i64 D.y1)
    have HX : Hid (Ow w.heap.size A B D ao n m bo bn bm ((((w1.setCell ⟨w.heap.size + 1 + 1 + 1 + 1, 0, none⟩ (.int .i64 D.x0)).setCell ⟨w.heap.size + 1 + 1 + 1 + 1, 1, none⟩ (.int .i64 D.y0)).setCell ⟨w.heap.size + 1 + 1 + 1 + 1, 2, none⟩ (.int .i64 D.x1)).setCell ⟨w.heap.size + 1 + 1 + 1 + 1, 3, none⟩ (.int .i64 D.y1)) ∧ Below w.heap.size w ((((w1.setCell ⟨w.heap.size + 1 + 1 + 1 + 1, 0, none⟩ (.int .i64 D.x0)).setCell ⟨w.heap.size + 1 + 1 + 1 + 1, 1, none⟩ (.int .i64 D.y0)).setCell ⟨w.heap.size + 1 + 1 + 1 + 1, 2, none⟩ (.int .i64 D.x1)).setCell ⟨w.heap.size + 1 + 1 + 1 + 1, 3, none⟩ (.int .i64 D.y1)) ∧ Gs ((((w1.setCell ⟨w.heap.size + 1 + 1 + 1 + 1, 0, none⟩ (.int .i64 D.x0)).setCell ⟨w.heap.size + 1 + 1 + 1 + 1, 1, none⟩ (.int .i64 D.y0)).setCell ⟨w.heap.size + 1 + 1 + 1 + 1, 2, none⟩ (.int .i64 D.x1)).setCell ⟨w.heap.size + 1 + 1 + 1 + 1, 3, none⟩ (.int .i64 D.y1)) (w.heap.size + 1 + 1 + 1 + 1) D [] none 0 0 0 0 ((((w1.setCell ⟨w.heap.size + 1 + 1 + 1 + 1, 0, none⟩ (.int .i64 D.x0)).setCell ⟨w.heap.size + 1 + 1 + 1 + 1, 1, none⟩ (.int .i64 D.y0)).setCell ⟨w.heap.size + 1 + 1 + 1 + 1, 2, none⟩ (.int .i64 D.x1)).setCell ⟨w.heap.size + 1 + 1 + 1 + 1, 3, none⟩ (.int .i64 D.y1))) :=
      ⟨HW1.out.1.but hbs, HW1.out.2.2.trans (hbs.low (by omega) HW1.out.2.2.size), ⟨has5_box HW1.out.2.1 _ _ _ _, oz_nil _ _ _ _, Below.refl _ _⟩⟩
    clear hbs d0 d1 d2 d3 df o0 o1 o2 o3 o4 of4 HW1
    generalize ((((w1.setCell ⟨w.heap.size + 1 + 1 + 1 + 1, 0, none⟩ (.int .i64 D.x0)).setCell ⟨w.heap.size + 1 + 1 + 1 + 1, 1, none⟩ (.int .i64 D.y0)).setCell ⟨w.heap.size + 1 + 1 + 1 + 1, 2, none⟩ (.int .i64 D.x1)).setCell ⟨w.heap.size + 1 + 1 + 1 + 1, 3, none⟩ (.int .i64 D.y1)) = W0 at HX ⊢
    go_loopg [8] (D.y1 - D.y0).toNat (fun gh v12 wr => ∃ y oo on om og ooff, D.y0 ≤ y ∧ y ≤ D.y1 ∧ gh = (D.y1 - y).toNat ∧ v12 = .int .i64 y ∧ Gs W0 (w.heap.size + 1 + 1 + 1 + 1) D ((img D G).take (posN D D.x0 y)) oo on om og ooff wr)
    case atStart => exact ⟨D.y0, none, 0, 0, 0, 0, Int.le_refl _, by omega, rfl, rfl, by rw [pos_first]; exact HX.out.2.2⟩
    case round =>
      obtain ⟨y, oo, on, om, og, ooff, hy0, hy1, rfl, rfl, hG⟩ := hrel
      have HG1 := hid hG
      obtain ⟨d0, d1, d2, d3, df⟩ := (HX.out.1.low hG.low (by omega)).d
      by_cases hlt : y < D.y1
      · clear hG
        go_wp2
        go_loopg [9] (D.x1 - D.x0).toNat (fun gh v13 wr => ∃ x oo on om og ooff, D.x0 ≤ x ∧ x ≤ D.x1 ∧ gh = (D.x1 - x).toNat ∧ v13 = .int .i64 x ∧ Gs W0 (w.heap.size + 1 + 1 + 1 + 1) D ((img D G).take (posN D x y)) oo on om og ooff wr)
        case atStart => exact ⟨D.x0, _, _, _, _, _, Int.le_refl _, by omega, rfl, rfl, HG1.out⟩
        case round =>
          clear HG1 d0 d1 d2 d3 df oo on om og ooff
          obtain ⟨x, oo, on, om, og, ooff, hx0, hx1, rfl, rfl, hG⟩ := hrel
          have HG1 := hid hG
          obtain ⟨d0, d1, d2, d3, df⟩ := (HX.out.1.low hG.low (by omega)).d
          by_cases hltx : x < D.x1
          · have hon : on ≤ 1000000 := by have h1 := vx_len hG.x.v; have h2 := take_len D G (posN D x y); omega
            have hl5 : w.heap.size + 1 + 1 + 1 + 1 < wr.heap.size := hG.lt
            have HBX : Hid (hasB D x y = true) := decide_eq_true (by omega)
            obtain ⟨p, hp⟩ : ∃ p, p = atX A f x y := ⟨_, rfl⟩
            obtain ⟨q, hq⟩ : ∃ q, q = atX B h x y := ⟨_, rfl⟩
            have HPQ : Hid (atX A f x y = p ∧ atX B h x y = q ∧ overX ⟨p.c0, p.c1, p.c2, p.c3⟩ ⟨q.c0, q.c1, q.c2, q.c3⟩ = G x y) := by
              refine ⟨hp.symm, hq.symm, ?_⟩
              rw [HGG.out, hp, hq]
            have HBY : Hid (byteX ⟨p.c0, p.c1, p.c2, p.c3⟩ ∧ byteX ⟨q.c0, q.c1, q.c2, q.c3⟩) := by
              rw [hp, hq]
              exact ⟨HH.out.2.2.2.2.1 x y, HH.out.2.2.2.2.2 x y⟩
            have HN : Hid ((n ≤ 1000000 ∧ bn ≤ 1000000) ∧ (-9000000000000 ≤ x ∧ x ≤ 9000000000000) ∧ (-9000000000000 ≤ y ∧ y ≤ 9000000000000)) := by show (_ ∧ _) ∧ (_ ∧ _) ∧ (_ ∧ _); omega
            have HVa : Hid (Vx wr ao n m g off (img A f)) := HH.out.1.below (HX.out.2.1.trans (HG1.out.low.mono (by omega)))
            have HVb : Hid (Vx wr bo bn bm bg boff (img B h)) := HH.out.2.2.1.below (HX.out.2.1.trans (HG1.out.low.mono (by omega)))
            clear hp hq
            obtain ⟨o0, o1, o2, o3, o4, of4⟩ := HG1.out.o
            obtain ⟨q0, q1, q2, q3, q4, qf⟩ := (HX.out.1.low HG1.out.low (by omega)).a
            obtain ⟨r0, r1, r2, r3, r4, rf⟩ := (HX.out.1.low HG1.out.low (by omega)).b
            clear hG
            go_wp2
            have hS : O10 w.heap.size A B (.slice ao n m) (.slice bo bn bm) wr.drew := O10_drew ⟨q0, q1, q2, q3, q4, r0, r1, r2, r3, r4⟩
            replace HG1 := hid (HG1.out.below (Below.refl _ _).drew)
            replace HVa := hid (HVa.out.below (Below.refl _ _).drew)
            replace HVb := hid (HVb.out.below (Below.refl _ _).drew)
            clear q0 q1 q2 q3 q4 qf r0 r1 r2 r3 r4 rf o0 o1 o2 o3 o4 of4
            replace hl5 : w.heap.size + 1 + 1 + 1 + 1 < wr.drew.heap.size := hl5
            refine wp_region_held_drew (S := (fun w' => w'.cell? ⟨w.heap.size, 0, none⟩ = some (.int .i64 A.x0) ∧ w'.cell? ⟨w.heap.size, 1, none⟩ = some (.int .i64 A.y0) ∧ w'.cell? ⟨w.heap.size, 2, none⟩ = some (.int .i64 A.x1) ∧ w'.cell? ⟨w.heap.size, 3, none⟩ = some (.int .i64 A.y1) ∧ w'.cell? ⟨w.heap.size, 4, none⟩ = some (.slice ao n m) ∧ w'.cell? ⟨(w.heap.size + 1), 0, none⟩ = some (.int .i64 B.x0) ∧ w'.cell? ⟨(w.heap.size + 1), 1, none⟩ = some (.int .i64 B.y0) ∧ w'.cell? ⟨(w.heap.size + 1), 2, none⟩ = some (.int .i64 B.x1) ∧ w'.cell? ⟨(w.heap.size + 1), 3, none⟩ = some (.int .i64 B.y1) ∧ w'.cell? ⟨(w.heap.size + 1), 4, none⟩ = some (.slice bo bn bm))) (by kernel_rfl) ?_ (fun hHeld => ?_)
            · exact hS
            generalize wr.drew = wd at HG1 HVa HVb hS hHeld hl5 ⊢
            obtain ⟨o0, o1, o2, o3, o4, of4⟩ := HG1.out.o
            refine wpAnyH_take (i := 1) (oi := { dst := some 33, op := Op.load 26 (Operand.tmp 3), type := 26, pos := "ref.go:61", after := #[], guard := none }) (v := ?_) rfl (by kernel_rfl) (by kernel_rfl) (by kernel_rfl) (fun _ _ _ h => h) (Or.inl ⟨by rfl, ?hy⟩) (by assumption) ?_
            case hy => (intro w hSw; (try dsimp only at hSw); go_simp; first | done | with_reducible rfl)
            try simp only [Act.put, List.setIfInBounds_toArray, List.set_cons_zero, List.set_cons_succ]
            refine wpAnyH_take (i := 2) (oi := { dst := some 34, op := Op.move (Operand.tmp 9), type := 3, pos := "ref.go:61", after := #[], guard := none }) (v := ?_) rfl (by kernel_rfl) (by kernel_rfl) (by kernel_rfl) (fun _ _ _ h => h) (Or.inl ⟨by rfl, ?hy⟩) (by assumption) ?_
            case hy => (intro w hSw; (try dsimp only at hSw); go_simp; first | done | with_reducible rfl)
            try simp only [Act.put, List.setIfInBounds_toArray, List.set_cons_zero, List.set_cons_succ]
            refine wpAnyH_take (i := 3) (oi := { dst := some 35, op := Op.move (Operand.tmp 8), type := 3, pos := "ref.go:61", after := #[], guard := none }) (v := ?_) rfl (by kernel_rfl) (by kernel_rfl) (by kernel_rfl) (fun _ _ _ h => h) (Or.inl ⟨by rfl, ?hy⟩) (by assumption) ?_
            case hy => (intro w hSw; (try dsimp only at hSw); go_simp; first | done | with_reducible rfl)
            try simp only [Act.put, List.setIfInBounds_toArray, List.set_cons_zero, List.set_cons_succ]
            refine wpAnyH_take (i := 5) (oi := { dst := some 37, op := Op.load 26 (Operand.tmp 4), type := 26, pos := "ref.go:61", after := #[], guard := none }) (v := ?_) rfl (by kernel_rfl) (by kernel_rfl) (by kernel_rfl) (fun _ _ _ h => h) (Or.inl ⟨by rfl, ?hy⟩) (by assumption) ?_
            case hy => (intro w hSw; (try dsimp only at hSw); go_simp; first | done | with_reducible rfl)
            try simp only [Act.put, List.setIfInBounds_toArray, List.set_cons_zero, List.set_cons_succ]
            refine wpAnyH_take (i := 6) (oi := { dst := some 38, op := Op.move (Operand.tmp 9), type := 3, pos := "ref.go:61", after := #[], guard := none }) (v := ?_) rfl (by kernel_rfl) (by kernel_rfl) (by kernel_rfl) (fun _ _ _ h => h) (Or.inl ⟨by rfl, ?hy⟩) (by assumption) ?_
            case hy => (intro w hSw; (try dsimp only at hSw); go_simp; first | done | with_reducible rfl)
            try simp only [Act.put, List.setIfInBounds_toArray, List.set_cons_zero, List.set_cons_succ]
            refine wpAnyH_take (i := 7) (oi := { dst := some 39, op := Op.move (Operand.tmp 8), type := 3, pos := "ref.go:61", after := #[], guard := none }) (v := ?_) rfl (by kernel_rfl) (by kernel_rfl) (by kernel_rfl) (fun _ _ _ h => h) (Or.inl ⟨by rfl, ?hy⟩) (by assumption) ?_
            case hy => (intro w hSw; (try dsimp only at hSw); go_simp; first | done | with_reducible rfl)
            try simp only [Act.put, List.setIfInBounds_toArray, List.set_cons_zero, List.set_cons_succ]
            refine wpAnyH_ready (rs := [0, 4]) (by kernel_rfl) (by simp) ?_
            refine AllReadyH.cons (o := { dst := some 32, op := Op.load 26 (Operand.tmp 7), type := 26, pos := "ref.go:61", after := #[], guard := none }) rfl (fun K hK => ?_) (AllReadyH.cons (o := { dst := some 36, op := Op.call { callee := Callee.value (Operand.func 32), args := #[Operand.tmp 33, Operand.tmp 34, Operand.tmp 35], argTypes := #[26, 3, 3] }, type := 28, pos := "ref.go:61", after := #[{ on := 1, ground := Ground.data }, { on := 2, ground := Ground.data }, { on := 3, ground := Ground.data }], guard := none }) rfl (fun K hK => ?_) AllReadyH.nil)
            · go_simp
              refine hK.out _ _ ?_ (fun hHeld => ?_)
              · exact hS
              clear hK K
              try simp only [Act.put, List.setIfInBounds_toArray, List.set_cons_zero, List.set_cons_succ]
              refine wpAnyH_ready (rs := [4]) (by kernel_rfl) (by simp) ?_
              refine AllReadyH.cons (o := { dst := some 36, op := Op.call { callee := Callee.value (Operand.func 32), args := #[Operand.tmp 33, Operand.tmp 34, Operand.tmp 35], argTypes := #[26, 3, 3] }, type := 28, pos := "ref.go:61", after := #[{ on := 1, ground := Ground.data }, { on := 2, ground := Ground.data }, { on := 3, ground := Ground.data }], guard := none }) rfl (fun K hK => ?_) AllReadyH.nil
              go_simp
              (go_at_call 32; with_reducible refine Calls.mono (refAt_any A ao n m g off f x y _ HH.out.2.1 HN.out.1.1 HN.out.2.1 HN.out.2.2 HVa.out) ?_; rintro e w2 ⟨rfl, hb2⟩; rw [HPQ.out.1]; have HG2 := hid (HG1.out.below hb2); have HV2 := hid (HVb.out.below hb2); replace hS := O10_below hS hb2; clear hb2; (try clear o0 o1 o2 o3 o4 of4); obtain ⟨o0, o1, o2, o3, o4, of4⟩ := HG2.out.o)
              go_wp2_with fail
              refine hK.out _ _ ?_ (fun hHeld => ?_)
              · exact hS
              clear hK K
              try simp only [Act.put, List.setIfInBounds_toArray, List.set_cons_zero, List.set_cons_succ]
              refine wpAnyH_ready (rs := [8]) (by kernel_rfl) (by simp) ?_
              refine AllReadyH.cons (o := { dst := some 40, op := Op.call { callee := Callee.value (Operand.func 32), args := #[Operand.tmp 37, Operand.tmp 38, Operand.tmp 39], argTypes := #[26, 3, 3] }, type := 28, pos := "ref.go:61", after := #[{ on := 5, ground := Ground.data }, { on := 6, ground := Ground.data }, { on := 7, ground := Ground.data }, { on := 4, ground := Ground.chain }], guard := none }) rfl (fun K hK => ?_) AllReadyH.nil
              go_simp
              (go_at_call 32; with_reducible refine Calls.mono (refAt_any B bo bn bm bg boff h x y _ HH.out.2.2.2.1 HN.out.1.2 HN.out.2.1 HN.out.2.2 HV2.out) ?_; rintro e w3 ⟨rfl, hb3⟩; rw [HPQ.out.2.1]; have HG3 := hid (HG2.out.below hb3); replace hS := O10_below hS hb3; clear hb3; (try clear o0 o1 o2 o3 o4 of4); obtain ⟨o0, o1, o2, o3, o4, of4⟩ := HG3.out.o)
              go_wp2_with fail
              refine hK.out _ _ ?_ (fun hHeld => ?_)
              · exact hS
              clear hK K
              try simp only [Act.put, List.setIfInBounds_toArray, List.set_cons_zero, List.set_cons_succ]
              refine wpAnyH_ready (rs := [9]) (by kernel_rfl) (by simp) ?_
              refine AllReadyH.cons (o := { dst := some 41, op := Op.call { callee := Callee.value (Operand.func 80), args := #[Operand.const (Value.int IntKind.i64 0), Operand.tmp 36, Operand.tmp 40], argTypes := #[3, 28, 28] }, type := 28, pos := "ref.go:61", after := #[{ on := 4, ground := Ground.data }, { on := 8, ground := Ground.data }, { on := 8, ground := Ground.chain }], guard := none }) rfl (fun K hK => ?_) AllReadyH.nil
              go_simp
              (go_at_call 80; with_reducible refine Calls.mono (refOver4 p.c0 p.c1 p.c2 p.c3 q.c0 q.c1 q.c2 q.c3 _ HBY.out.1 HBY.out.2) ?_; rintro e w4 ⟨rfl, hb4⟩; rw [HPQ.out.2.2]; have HG4 := hid (HG3.out.below hb4); have hlo4 : w.heap.size + 1 + 1 + 1 + 1 + 1 ≤ w4.heap.size := (by have := HG4.out.lt; omega); replace hS := O10_below hS hb4; clear hb4; (try clear o0 o1 o2 o3 o4 of4); obtain ⟨o0, o1, o2, o3, o4, of4⟩ := HG4.out.o)
              go_wp2_with fail
              refine hK.out _ _ ?_ (fun hHeld => ?_)
              · exact hS
              clear hK K
              try simp only [Act.put, List.setIfInBounds_toArray, List.set_cons_zero, List.set_cons_succ]
              refine wpAnyH_ready (rs := [10]) (by kernel_rfl) (by simp) ?_
              refine AllReadyH.cons (o := { dst := some 42, op := Op.call { callee := Callee.value (Operand.func 47), args := #[Operand.tmp 32, Operand.tmp 41], argTypes := #[26, 28] }, type := 26, pos := "ref.go:61", after := #[{ on := 0, ground := Ground.data }, { on := 9, ground := Ground.data }, { on := 9, ground := Ground.chain }], guard := none }) rfl (fun K hK => ?_) AllReadyH.nil
              go_simp
              (go_at_call 47; with_reducible refine Calls.mono (with4 (w.heap.size + 1 + 1 + 1 + 1 + 1) D oo on om og ooff ((img D G).take (posN D x y)) (G x y).c0 (G x y).c1 (G x y).c2 (G x y).c3 _ HG4.out.x hlo4 hon) ?_; rintro e w5 hr; obtain ⟨oo', om', og', ooff', rfl, hO5, hB5, hK5⟩ := retA hr; have H5 := hid (HG4.out.o.block (hB5.block (w.heap.size + 1 + 1 + 1 + 1) (Nat.lt_succ_self _))); have HW5 := hid (HX.out.1.low (HG4.out.low.trans (hB5.mono (Nat.le_succ _))) HLO.out); have HG5 := hid (HG4.out.next hO5 hB5 H5.out); clear hr hO5 hB5 hK5; (try clear o0 o1 o2 o3 o4 of4); obtain ⟨o0, o1, o2, o3, o4, of4⟩ := H5.out; replace hS : O10 w.heap.size A B (.slice ao n m) (.slice bo bn bm) w5 := ⟨HW5.out.a.c0, HW5.out.a.c1, HW5.out.a.c2, HW5.out.a.c3, HW5.out.a.c4, HW5.out.b.c0, HW5.out.b.c1, HW5.out.b.c2, HW5.out.b.c3, HW5.out.b.c4⟩)
              go_wp2_with fail
              refine hK.out _ _ ?_ (fun hHeld => ?_)
              · exact hS
              clear hK K
              try simp only [Act.put, List.setIfInBounds_toArray, List.set_cons_zero, List.set_cons_succ]
              refine wpAnyH_ready (rs := [11]) (by kernel_rfl) (by simp) ?_
              refine AllReadyH.cons (o := { dst := none, op := Op.store 26 (Operand.tmp 7) (Operand.tmp 42), type := 0, pos := "ref.go:61", after := #[{ on := 10, ground := Ground.data }, { on := 10, ground := Ground.chain }, { on := 0, ground := Ground.phase }, { on := 1, ground := Ground.phase }, { on := 2, ground := Ground.phase }, { on := 3, ground := Ground.phase }, { on := 4, ground := Ground.phase }, { on := 5, ground := Ground.phase }, { on := 6, ground := Ground.phase }, { on := 7, ground := Ground.phase }, { on := 8, ground := Ground.phase }, { on := 9, ground := Ground.phase }, { on := 10, ground := Ground.phase }], guard := none }) rfl (fun K hK => ?_) AllReadyH.nil
              go_simp
              refine hK.out _ _ ?_ (fun hHeld => ?_)
              · exact O10_set5 hS (by omega) (by omega)
              clear hK K
              try simp only [Act.put, List.setIfInBounds_toArray, List.set_cons_zero, List.set_cons_succ]
              refine wpAnyH_done (by kernel_rfl) ?_ _
              go_wp2
              go_roundg (D.x1 - (x + 1)).toNat
              case measure => omega
              case rel =>
                refine ⟨x + 1, oo', on + 1, om', og', ooff', by omega, by omega, rfl, rfl, ?_⟩
                have h9 := HG5.out
                rw [show (⟨(G x y).c0, (G x y).c1, (G x y).c2, (G x y).c3⟩ : X) = G x y from rfl, take_more G HBX.out, ← pos_next D hx0] at h9
                exact h9
            · go_simp
              (go_at_call 32; with_reducible refine Calls.mono (refAt_any A ao n m g off f x y _ HH.out.2.1 HN.out.1.1 HN.out.2.1 HN.out.2.2 HVa.out) ?_; rintro e w2 ⟨rfl, hb2⟩; rw [HPQ.out.1]; have HG2 := hid (HG1.out.below hb2); have HV2 := hid (HVb.out.below hb2); replace hS := O10_below hS hb2; clear hb2; (try clear o0 o1 o2 o3 o4 of4); obtain ⟨o0, o1, o2, o3, o4, of4⟩ := HG2.out.o)
              go_wp2_with fail
              refine hK.out _ _ ?_ (fun hHeld => ?_)
              · exact hS
              clear hK K
              try simp only [Act.put, List.setIfInBounds_toArray, List.set_cons_zero, List.set_cons_succ]
              refine wpAnyH_ready (rs := [0, 8]) (by kernel_rfl) (by simp) ?_
              refine AllReadyH.cons (o := { dst := some 32, op := Op.load 26 (Operand.tmp 7), type := 26, pos := "ref.go:61", after := #[], guard := none }) rfl (fun K hK => ?_) (AllReadyH.cons (o := { dst := some 40, op := Op.call { callee := Callee.value (Operand.func 32), args := #[Operand.tmp 37, Operand.tmp 38, Operand.tmp 39], argTypes := #[26, 3, 3] }, type := 28, pos := "ref.go:61", after := #[{ on := 5, ground := Ground.data }, { on := 6, ground := Ground.data }, { on := 7, ground := Ground.data }, { on := 4, ground := Ground.chain }], guard := none }) rfl (fun K hK => ?_) AllReadyH.nil)
              · go_simp
                refine hK.out _ _ ?_ (fun hHeld => ?_)
                · exact hS
                clear hK K
                try simp only [Act.put, List.setIfInBounds_toArray, List.set_cons_zero, List.set_cons_succ]
                refine wpAnyH_ready (rs := [8]) (by kernel_rfl) (by simp) ?_
                refine AllReadyH.cons (o := { dst := some 40, op := Op.call { callee := Callee.value (Operand.func 32), args := #[Operand.tmp 37, Operand.tmp 38, Operand.tmp 39], argTypes := #[26, 3, 3] }, type := 28, pos := "ref.go:61", after := #[{ on := 5, ground := Ground.data }, { on := 6, ground := Ground.data }, { on := 7, ground := Ground.data }, { on := 4, ground := Ground.chain }], guard := none }) rfl (fun K hK => ?_) AllReadyH.nil
                go_simp
                (go_at_call 32; with_reducible refine Calls.mono (refAt_any B bo bn bm bg boff h x y _ HH.out.2.2.2.1 HN.out.1.2 HN.out.2.1 HN.out.2.2 HV2.out) ?_; rintro e w3 ⟨rfl, hb3⟩; rw [HPQ.out.2.1]; have HG3 := hid (HG2.out.below hb3); replace hS := O10_below hS hb3; clear hb3; (try clear o0 o1 o2 o3 o4 of4); obtain ⟨o0, o1, o2, o3, o4, of4⟩ := HG3.out.o)
                go_wp2_with fail
                refine hK.out _ _ ?_ (fun hHeld => ?_)
                · exact hS
                clear hK K
                try simp only [Act.put, List.setIfInBounds_toArray, List.set_cons_zero, List.set_cons_succ]
                refine wpAnyH_ready (rs := [9]) (by kernel_rfl) (by simp) ?_
                refine AllReadyH.cons (o := { dst := some 41, op := Op.call { callee := Callee.value (Operand.func 80), args := #[Operand.const (Value.int IntKind.i64 0), Operand.tmp 36, Operand.tmp 40], argTypes := #[3, 28, 28] }, type := 28, pos := "ref.go:61", after := #[{ on := 4, ground := Ground.data }, { on := 8, ground := Ground.data }, { on := 8, ground := Ground.chain }], guard := none }) rfl (fun K hK => ?_) AllReadyH.nil
                go_simp
                (go_at_call 80; with_reducible refine Calls.mono (refOver4 p.c0 p.c1 p.c2 p.c3 q.c0 q.c1 q.c2 q.c3 _ HBY.out.1 HBY.out.2) ?_; rintro e w4 ⟨rfl, hb4⟩; rw [HPQ.out.2.2]; have HG4 := hid (HG3.out.below hb4); have hlo4 : w.heap.size + 1 + 1 + 1 + 1 + 1 ≤ w4.heap.size := (by have := HG4.out.lt; omega); replace hS := O10_below hS hb4; clear hb4; (try clear o0 o1 o2 o3 o4 of4); obtain ⟨o0, o1, o2, o3, o4, of4⟩ := HG4.out.o)
                go_wp2_with fail
                refine hK.out _ _ ?_ (fun hHeld => ?_)
                · exact hS
                clear hK K
                try simp only [Act.put, List.setIfInBounds_toArray, List.set_cons_zero, List.set_cons_succ]
                refine wpAnyH_ready (rs := [10]) (by kernel_rfl) (by simp) ?_
                refine AllReadyH.cons (o := { dst := some 42, op := Op.call { callee := Callee.value (Operand.func 47), args := #[Operand.tmp 32, Operand.tmp 41], argTypes := #[26, 28] }, type := 26, pos := "ref.go:61", after := #[{ on := 0, ground := Ground.data }, { on := 9, ground := Ground.data }, { on := 9, ground := Ground.chain }], guard := none }) rfl (fun K hK => ?_) AllReadyH.nil
                go_simp
                (go_at_call 47; with_reducible refine Calls.mono (with4 (w.heap.size + 1 + 1 + 1 + 1 + 1) D oo on om og ooff ((img D G).take (posN D x y)) (G x y).c0 (G x y).c1 (G x y).c2 (G x y).c3 _ HG4.out.x hlo4 hon) ?_; rintro e w5 hr; obtain ⟨oo', om', og', ooff', rfl, hO5, hB5, hK5⟩ := retA hr; have H5 := hid (HG4.out.o.block (hB5.block (w.heap.size + 1 + 1 + 1 + 1) (Nat.lt_succ_self _))); have HW5 := hid (HX.out.1.low (HG4.out.low.trans (hB5.mono (Nat.le_succ _))) HLO.out); have HG5 := hid (HG4.out.next hO5 hB5 H5.out); clear hr hO5 hB5 hK5; (try clear o0 o1 o2 o3 o4 of4); obtain ⟨o0, o1, o2, o3, o4, of4⟩ := H5.out; replace hS : O10 w.heap.size A B (.slice ao n m) (.slice bo bn bm) w5 := ⟨HW5.out.a.c0, HW5.out.a.c1, HW5.out.a.c2, HW5.out.a.c3, HW5.out.a.c4, HW5.out.b.c0, HW5.out.b.c1, HW5.out.b.c2, HW5.out.b.c3, HW5.out.b.c4⟩)
                go_wp2_with fail
                refine hK.out _ _ ?_ (fun hHeld => ?_)
                · exact hS
                clear hK K
                try simp only [Act.put, List.setIfInBounds_toArray, List.set_cons_zero, List.set_cons_succ]
                refine wpAnyH_ready (rs := [11]) (by kernel_rfl) (by simp) ?_
                refine AllReadyH.cons (o := { dst := none, op := Op.store 26 (Operand.tmp 7) (Operand.tmp 42), type := 0, pos := "ref.go:61", after := #[{ on := 10, ground := Ground.data }, { on := 10, ground := Ground.chain }, { on := 0, ground := Ground.phase }, { on := 1, ground := Ground.phase }, { on := 2, ground := Ground.phase }, { on := 3, ground := Ground.phase }, { on := 4, ground := Ground.phase }, { on := 5, ground := Ground.phase }, { on := 6, ground := Ground.phase }, { on := 7, ground := Ground.phase }, { on := 8, ground := Ground.phase }, { on := 9, ground := Ground.phase }, { on := 10, ground := Ground.phase }], guard := none }) rfl (fun K hK => ?_) AllReadyH.nil
                go_simp
                refine hK.out _ _ ?_ (fun hHeld => ?_)
                · exact O10_set5 hS (by omega) (by omega)
                clear hK K
                try simp only [Act.put, List.setIfInBounds_toArray, List.set_cons_zero, List.set_cons_succ]
                refine wpAnyH_done (by kernel_rfl) ?_ _
                go_wp2
                go_roundg (D.x1 - (x + 1)).toNat
                case measure => omega
                case rel =>
                  refine ⟨x + 1, oo', on + 1, om', og', ooff', by omega, by omega, rfl, rfl, ?_⟩
                  have h9 := HG5.out
                  rw [show (⟨(G x y).c0, (G x y).c1, (G x y).c2, (G x y).c3⟩ : X) = G x y from rfl, take_more G HBX.out, ← pos_next D hx0] at h9
                  exact h9
              · go_simp
                (go_at_call 32; with_reducible refine Calls.mono (refAt_any B bo bn bm bg boff h x y _ HH.out.2.2.2.1 HN.out.1.2 HN.out.2.1 HN.out.2.2 HV2.out) ?_; rintro e w3 ⟨rfl, hb3⟩; rw [HPQ.out.2.1]; have HG3 := hid (HG2.out.below hb3); replace hS := O10_below hS hb3; clear hb3; (try clear o0 o1 o2 o3 o4 of4); obtain ⟨o0, o1, o2, o3, o4, of4⟩ := HG3.out.o)
                go_wp2_with fail
                refine hK.out _ _ ?_ (fun hHeld => ?_)
                · exact hS
                clear hK K
                try simp only [Act.put, List.setIfInBounds_toArray, List.set_cons_zero, List.set_cons_succ]
                refine wpAnyH_ready (rs := [0, 9]) (by kernel_rfl) (by simp) ?_
                refine AllReadyH.cons (o := { dst := some 32, op := Op.load 26 (Operand.tmp 7), type := 26, pos := "ref.go:61", after := #[], guard := none }) rfl (fun K hK => ?_) (AllReadyH.cons (o := { dst := some 41, op := Op.call { callee := Callee.value (Operand.func 80), args := #[Operand.const (Value.int IntKind.i64 0), Operand.tmp 36, Operand.tmp 40], argTypes := #[3, 28, 28] }, type := 28, pos := "ref.go:61", after := #[{ on := 4, ground := Ground.data }, { on := 8, ground := Ground.data }, { on := 8, ground := Ground.chain }], guard := none }) rfl (fun K hK => ?_) AllReadyH.nil)
                · go_simp
                  refine hK.out _ _ ?_ (fun hHeld => ?_)
                  · exact hS
                  clear hK K
                  try simp only [Act.put, List.setIfInBounds_toArray, List.set_cons_zero, List.set_cons_succ]
                  refine wpAnyH_ready (rs := [9]) (by kernel_rfl) (by simp) ?_
                  refine AllReadyH.cons (o := { dst := some 41, op := Op.call { callee := Callee.value (Operand.func 80), args := #[Operand.const (Value.int IntKind.i64 0), Operand.tmp 36, Operand.tmp 40], argTypes := #[3, 28, 28] }, type := 28, pos := "ref.go:61", after := #[{ on := 4, ground := Ground.data }, { on := 8, ground := Ground.data }, { on := 8, ground := Ground.chain }], guard := none }) rfl (fun K hK => ?_) AllReadyH.nil
                  go_simp
                  (go_at_call 80; with_reducible refine Calls.mono (refOver4 p.c0 p.c1 p.c2 p.c3 q.c0 q.c1 q.c2 q.c3 _ HBY.out.1 HBY.out.2) ?_; rintro e w4 ⟨rfl, hb4⟩; rw [HPQ.out.2.2]; have HG4 := hid (HG3.out.below hb4); have hlo4 : w.heap.size + 1 + 1 + 1 + 1 + 1 ≤ w4.heap.size := (by have := HG4.out.lt; omega); replace hS := O10_below hS hb4; clear hb4; (try clear o0 o1 o2 o3 o4 of4); obtain ⟨o0, o1, o2, o3, o4, of4⟩ := HG4.out.o)
                  go_wp2_with fail
                  refine hK.out _ _ ?_ (fun hHeld => ?_)
                  · exact hS
                  clear hK K
                  try simp only [Act.put, List.setIfInBounds_toArray, List.set_cons_zero, List.set_cons_succ]
                  refine wpAnyH_ready (rs := [10]) (by kernel_rfl) (by simp) ?_
                  refine AllReadyH.cons (o := { dst := some 42, op := Op.call { callee := Callee.value (Operand.func 47), args := #[Operand.tmp 32, Operand.tmp 41], argTypes := #[26, 28] }, type := 26, pos := "ref.go:61", after := #[{ on := 0, ground := Ground.data }, { on := 9, ground := Ground.data }, { on := 9, ground := Ground.chain }], guard := none }) rfl (fun K hK => ?_) AllReadyH.nil
                  go_simp
                  (go_at_call 47; with_reducible refine Calls.mono (with4 (w.heap.size + 1 + 1 + 1 + 1 + 1) D oo on om og ooff ((img D G).take (posN D x y)) (G x y).c0 (G x y).c1 (G x y).c2 (G x y).c3 _ HG4.out.x hlo4 hon) ?_; rintro e w5 hr; obtain ⟨oo', om', og', ooff', rfl, hO5, hB5, hK5⟩ := retA hr; have H5 := hid (HG4.out.o.block (hB5.block (w.heap.size + 1 + 1 + 1 + 1) (Nat.lt_succ_self _))); have HW5 := hid (HX.out.1.low (HG4.out.low.trans (hB5.mono (Nat.le_succ _))) HLO.out); have HG5 := hid (HG4.out.next hO5 hB5 H5.out); clear hr hO5 hB5 hK5; (try clear o0 o1 o2 o3 o4 of4); obtain ⟨o0, o1, o2, o3, o4, of4⟩ := H5.out; replace hS : O10 w.heap.size A B (.slice ao n m) (.slice bo bn bm) w5 := ⟨HW5.out.a.c0, HW5.out.a.c1, HW5.out.a.c2, HW5.out.a.c3, HW5.out.a.c4, HW5.out.b.c0, HW5.out.b.c1, HW5.out.b.c2, HW5.out.b.c3, HW5.out.b.c4⟩)
                  go_wp2_with fail
                  refine hK.out _ _ ?_ (fun hHeld => ?_)
                  · exact hS
                  clear hK K
                  try simp only [Act.put, List.setIfInBounds_toArray, List.set_cons_zero, List.set_cons_succ]
                  refine wpAnyH_ready (rs := [11]) (by kernel_rfl) (by simp) ?_
                  refine AllReadyH.cons (o := { dst := none, op := Op.store 26 (Operand.tmp 7) (Operand.tmp 42), type := 0, pos := "ref.go:61", after := #[{ on := 10, ground := Ground.data }, { on := 10, ground := Ground.chain }, { on := 0, ground := Ground.phase }, { on := 1, ground := Ground.phase }, { on := 2, ground := Ground.phase }, { on := 3, ground := Ground.phase }, { on := 4, ground := Ground.phase }, { on := 5, ground := Ground.phase }, { on := 6, ground := Ground.phase }, { on := 7, ground := Ground.phase }, { on := 8, ground := Ground.phase }, { on := 9, ground := Ground.phase }, { on := 10, ground := Ground.phase }], guard := none }) rfl (fun K hK => ?_) AllReadyH.nil
                  go_simp
                  refine hK.out _ _ ?_ (fun hHeld => ?_)
                  · exact O10_set5 hS (by omega) (by omega)
                  clear hK K
                  try simp only [Act.put, List.setIfInBounds_toArray, List.set_cons_zero, List.set_cons_succ]
                  refine wpAnyH_done (by kernel_rfl) ?_ _
                  go_wp2
                  go_roundg (D.x1 - (x + 1)).toNat
                  case measure => omega
                  case rel =>
                    refine ⟨x + 1, oo', on + 1, om', og', ooff', by omega, by omega, rfl, rfl, ?_⟩
                    have h9 := HG5.out
                    rw [show (⟨(G x y).c0, (G x y).c1, (G x y).c2, (G x y).c3⟩ : X) = G x y from rfl, take_more G HBX.out, ← pos_next D hx0] at h9
                    exact h9
                · go_simp
                  (go_at_call 80; with_reducible refine Calls.mono (refOver4 p.c0 p.c1 p.c2 p.c3 q.c0 q.c1 q.c2 q.c3 _ HBY.out.1 HBY.out.2) ?_; rintro e w4 ⟨rfl, hb4⟩; rw [HPQ.out.2.2]; have HG4 := hid (HG3.out.below hb4); have hlo4 : w.heap.size + 1 + 1 + 1 + 1 + 1 ≤ w4.heap.size := (by have := HG4.out.lt; omega); replace hS := O10_below hS hb4; clear hb4; (try clear o0 o1 o2 o3 o4 of4); obtain ⟨o0, o1, o2, o3, o4, of4⟩ := HG4.out.o)
                  go_wp2_with fail
                  refine hK.out _ _ ?_ (fun hHeld => ?_)
                  · exact hS
                  clear hK K
                  try simp only [Act.put, List.setIfInBounds_toArray, List.set_cons_zero, List.set_cons_succ]
                  refine wpAnyH_ready (rs := [0]) (by kernel_rfl) (by simp) ?_
                  refine AllReadyH.cons (o := { dst := some 32, op := Op.load 26 (Operand.tmp 7), type := 26, pos := "ref.go:61", after := #[], guard := none }) rfl (fun K hK => ?_) AllReadyH.nil
                  go_simp
                  refine hK.out _ _ ?_ (fun hHeld => ?_)
                  · exact hS
                  clear hK K
                  try simp only [Act.put, List.setIfInBounds_toArray, List.set_cons_zero, List.set_cons_succ]
                  refine wpAnyH_ready (rs := [10]) (by kernel_rfl) (by simp) ?_
                  refine AllReadyH.cons (o := { dst := some 42, op := Op.call { callee := Callee.value (Operand.func 47), args := #[Operand.tmp 32, Operand.tmp 41], argTypes := #[26, 28] }, type := 26, pos := "ref.go:61", after := #[{ on := 0, ground := Ground.data }, { on := 9, ground := Ground.data }, { on := 9, ground := Ground.chain }], guard := none }) rfl (fun K hK => ?_) AllReadyH.nil
                  go_simp
                  (go_at_call 47; with_reducible refine Calls.mono (with4 (w.heap.size + 1 + 1 + 1 + 1 + 1) D oo on om og ooff ((img D G).take (posN D x y)) (G x y).c0 (G x y).c1 (G x y).c2 (G x y).c3 _ HG4.out.x hlo4 hon) ?_; rintro e w5 hr; obtain ⟨oo', om', og', ooff', rfl, hO5, hB5, hK5⟩ := retA hr; have H5 := hid (HG4.out.o.block (hB5.block (w.heap.size + 1 + 1 + 1 + 1) (Nat.lt_succ_self _))); have HW5 := hid (HX.out.1.low (HG4.out.low.trans (hB5.mono (Nat.le_succ _))) HLO.out); have HG5 := hid (HG4.out.next hO5 hB5 H5.out); clear hr hO5 hB5 hK5; (try clear o0 o1 o2 o3 o4 of4); obtain ⟨o0, o1, o2, o3, o4, of4⟩ := H5.out; replace hS : O10 w.heap.size A B (.slice ao n m) (.slice bo bn bm) w5 := ⟨HW5.out.a.c0, HW5.out.a.c1, HW5.out.a.c2, HW5.out.a.c3, HW5.out.a.c4, HW5.out.b.c0, HW5.out.b.c1, HW5.out.b.c2, HW5.out.b.c3, HW5.out.b.c4⟩)
                  go_wp2_with fail
                  refine hK.out _ _ ?_ (fun hHeld => ?_)
                  · exact hS
                  clear hK K
                  try simp only [Act.put, List.setIfInBounds_toArray, List.set_cons_zero, List.set_cons_succ]
                  refine wpAnyH_ready (rs := [11]) (by kernel_rfl) (by simp) ?_
                  refine AllReadyH.cons (o := { dst := none, op := Op.store 26 (Operand.tmp 7) (Operand.tmp 42), type := 0, pos := "ref.go:61", after := #[{ on := 10, ground := Ground.data }, { on := 10, ground := Ground.chain }, { on := 0, ground := Ground.phase }, { on := 1, ground := Ground.phase }, { on := 2, ground := Ground.phase }, { on := 3, ground := Ground.phase }, { on := 4, ground := Ground.phase }, { on := 5, ground := Ground.phase }, { on := 6, ground := Ground.phase }, { on := 7, ground := Ground.phase }, { on := 8, ground := Ground.phase }, { on := 9, ground := Ground.phase }, { on := 10, ground := Ground.phase }], guard := none }) rfl (fun K hK => ?_) AllReadyH.nil
                  go_simp
                  refine hK.out _ _ ?_ (fun hHeld => ?_)
                  · exact O10_set5 hS (by omega) (by omega)
                  clear hK K
                  try simp only [Act.put, List.setIfInBounds_toArray, List.set_cons_zero, List.set_cons_succ]
                  refine wpAnyH_done (by kernel_rfl) ?_ _
                  go_wp2
                  go_roundg (D.x1 - (x + 1)).toNat
                  case measure => omega
                  case rel =>
                    refine ⟨x + 1, oo', on + 1, om', og', ooff', by omega, by omega, rfl, rfl, ?_⟩
                    have h9 := HG5.out
                    rw [show (⟨(G x y).c0, (G x y).c1, (G x y).c2, (G x y).c3⟩ : X) = G x y from rfl, take_more G HBX.out, ← pos_next D hx0] at h9
                    exact h9

          · obtain rfl : D.x1 = x := by omega
            clear hG
            go_wp2
            go_roundg (D.y1 - (y + 1)).toNat
            case measure => omega
            case rel => exact ⟨y + 1, oo, on, om, og, ooff, by omega, by omega, rfl, rfl, by rw [← pos_row D hy0 x01]; exact HG1.out⟩
      · obtain rfl : D.y1 = y := by omega
        obtain ⟨o0, o1, o2, o3, o4, of4⟩ := hG.o
        obtain ⟨z0, z1, z2, z3, z4, zf⟩ := (HX.out.1.low hG.low (by omega)).z
        clear hG
        go_wp2
        obtain ⟨s0, s1, s2, s3, s4⟩ := set5 z0 z1 z2 z3 z4 (.int .i64 D.x0) (.int .i64 D.y0) (.int .i64 D.x1) (.int .i64 D.y1) (.slice oo on om)
        refine bodyPost_ret (v := .agg #[.int .i64 D.x0, .int .i64 D.y0, .int .i64 D.x1, .int .i64 D.y1, .slice oo on om]) (by simp [results, Try.results60, go_sem, s0, s1, s2, s3, s4]) rfl ⟨⟨_, _, _, og, ooff, rfl, ?_⟩, ?_⟩
        · have hx := HG1.out.x
          rw [pos_last, List.take_of_length_le (by rw [img_len]; exact Nat.le_refl _)] at hx
          exact (hx.but (but_set5 _ _ _ _ _ _ _) (fun hc => by have := (hx.new hc).1; omega)).mono (by omega)
        · exact below_set5 (HX.out.2.1.trans (HG1.out.low.mono (by omega))) (by omega) _ _ _ _ _
  · rw [orN_yes he]
    have HE : Hid (empB ⟨D.x0, D.y0, D.x1, D.y1⟩ = true) := he
    clear hV hAo hBo hVb hf hh ha he hG hD
    go_enter Try.func60, Try.ntmps60
    go_wp2_with (go_at_call 15; with_reducible refine Calls.mono (Rc.refEmpty_any D.x0 D.y0 D.x1 D.y1 _) ?_; rintro e w1 ⟨rfl, hb1⟩; rw [HE.out]; have HW1 := hid (And.intro (HW.out.1.below hb1) (And.intro (HW.out.2.1.below hb1) (Rc.via HW.out.2.2 hb1))); clear hb1 d0 d1 d2 d3 df; obtain ⟨o0, o1, o2, o3, o4, of4⟩ := HW1.out.2.1; obtain ⟨z0, z1, z2, z3, z4, zf⟩ := HW1.out.1.z)
    obtain ⟨s0, s1, s2, s3, s4⟩ := set5 z0 z1 z2 z3 z4 (.int .i64 0) (.int .i64 0) (.int .i64 0) (.int .i64 0) (.slice none 0 0)
    refine bodyPost_ret (v := .agg #[.int .i64 0, .int .i64 0, .int .i64 0, .int .i64 0, .slice none 0 0]) (by simp [results, Try.results60, go_sem, s0, s1, s2, s3, s4]) rfl ⟨⟨_, _, _, 0, 0, rfl, oz_nil _ _ _ _⟩, ?_⟩
    exact below_set5 HW1.out.2.2 (by omega) _ _ _ _ _
end Go.Proofs.Ytfgfgfmimejpdaa
/- Shadows, by the document: a contract. -/
namespace Go.Proofs.Ytfgfgfmimejpdaa
open Num Go.RowKit
set_option linter.unusedVariables false
set_option linter.unusedSimpArgs false

theorem cut_mid {v : Int} (h : -1073741824 ≤ v ∧ v ≤ 1073741824) : cutN v = v := by unfold cutN mx mn; omega
theorem grow_wide {E : R} {rx ry : Nat} (hD : Wide E) (he : empB E = false) (hx : rx ≤ 255) (hy : ry ≤ 255) : grow E (rx : Int) (ry : Int) (rx : Int) (ry : Int) = ⟨E.x0 - rx, E.y0 - ry, E.x1 + rx, E.y1 + ry⟩ ∧ empB ⟨E.x0 - rx, E.y0 - ry, E.x1 + rx, E.y1 + ry⟩ = false := by
  obtain ⟨e1, e2⟩ := of_some he
  unfold Wide at hD
  have h9 : empB ⟨E.x0 - rx, E.y0 - ry, E.x1 + rx, E.y1 + ry⟩ = false := emp_no (by dsimp only; omega) (by dsimp only; omega)
  refine ⟨?_, h9⟩
  unfold grow
  rw [if_neg (by simp [he])]
  unfold cutR
  rw [cut_mid (by omega), cut_mid (by omega), cut_mid (by omega), cut_mid (by omega), orN_no h9]
theorem shift_area {D : R} {dx dy : Int} {rx ry : Nat} (hD : Half D) (he : empB D = false) (hx : rx ≤ 255) (hy : ry ≤ 255) (hdx : -33554432 ≤ dx ∧ dx ≤ 33554432) (hdy : -33554432 ≤ dy ∧ dy ≤ 33554432) :
    Wide ⟨D.x0 - dx, D.y0 - dy, D.x1 - dx, D.y1 - dy⟩ ∧ area (grow ⟨D.x0 - dx, D.y0 - dy, D.x1 - dx, D.y1 - dy⟩ (rx : Int) (ry : Int) (rx : Int) (ry : Int)) = area (grow D (rx : Int) (ry : Int) (rx : Int) (ry : Int)) := by
  unfold Half at hD
  have hT : Wide ⟨D.x0 - dx, D.y0 - dy, D.x1 - dx, D.y1 - dy⟩ := by unfold Wide; dsimp only; omega
  have hD' : Wide D := by unfold Wide; omega
  obtain ⟨g1, g2⟩ := grow_wide hT (shift_emp he) hx hy
  obtain ⟨g3, g4⟩ := grow_wide hD' he hx hy
  refine ⟨hT, ?_⟩
  rw [g1, g3, area_of g2, area_of g4]
  dsimp only
  rw [show D.x1 - dx + (rx : Int) - (D.x0 - dx - (rx : Int)) = D.x1 + (rx : Int) - (D.x0 - (rx : Int)) by omega, show D.y1 - dy + (ry : Int) - (D.y0 - dy - (ry : Int)) = D.y1 + (ry : Int) - (D.y0 - (ry : Int)) by omega]
theorem take_map {l : List X} {s : X → X} {i : Nat} {r : X} (h : l[i]? = some r) : (l.map s).take i ++ [s r] = (l.map s).take (i + 1) := by
  rw [List.take_add_one, List.getElem?_map, h]
  rfl
/-- what stands while the document scales -/
structure Lr (w : World) (B D : R) (p : X) (ao : Option Addr) (n m : Nat) (k16 : Nat) (T : R) (eo : Option Addr) (en em eg eoff : Nat) (l : List X) (wr : World) : Prop where
  x : Sw w B D p ao n m wr
  h : Has5 wr k16 T eo en em
  v : Vx wr eo en em eg eoff l
theorem Lr.below {w : World} {B D : R} {p : X} {ao : Option Addr} {n m : Nat} {k16 : Nat} {T : R} {eo : Option Addr} {en em eg eoff : Nat} {l : List X} {wr wr' : World} (x : Lr w B D p ao n m k16 T eo en em eg eoff l wr) (hb : Below wr.heap.size wr wr') : Lr w B D p ao n m k16 T eo en em eg eoff l wr' := ⟨x.x.below hb, x.h.below hb, x.v.below hb⟩

set_option maxRecDepth 100000 in
set_option maxHeartbeats 8000000 in
theorem refShadow_any (B : R) (ao : Option Addr) (n m g off : Nat) (f : Int → Int → X) (D : R) (dx dy : Int) (rx ry : Nat) (p : X) (w : World) (hn : n ≤ 5000) (hB : bufB B n = true) (hV : Vx w ao n m g off (img B f)) (hb : ∀ x y, byteX (f x y)) (hD : Half D) (ha : area (grow D (rx : Int) (ry : Int) (rx : Int) (ry : Int)) ≤ 5000) (hx : rx ≤ 255) (hy : ry ≤ 255) (hdx : -33554432 ≤ dx ∧ dx ≤ 33554432) (hdy : -33554432 ≤ dy ∧ dy ≤ 33554432) (hp : byteX p) :
    Calls Try.prog 28 #[.agg #[.int .i64 B.x0, .int .i64 B.y0, .int .i64 B.x1, .int .i64 B.y1, .slice ao n m], .agg #[.int .i64 D.x0, .int .i64 D.y0, .int .i64 D.x1, .int .i64 D.y1], .int .i64 dx, .int .i64 dy, .int .i64 (rx : Int), .int .i64 (ry : Int), .agg #[.int .u8 p.c0, .int .u8 p.c1, .int .u8 p.c2, .int .u8 p.c3]] w fun e w' => RetB w.heap.size w' e (orN D) (img (orN D) (shadX B f dx dy rx ry p)) ∧ Below w.heap.size w w' := by
  have HX : Hid (Sw w B D p ao n m (((((w.alloc (.cells #[.int .i64 B.x0, .int .i64 B.y0, .int .i64 B.x1, .int .i64 B.y1, .slice ao n m] 26)).alloc (.cells #[.int .i64 D.x0, .int .i64 D.y0, .int .i64 D.x1, .int .i64 D.y1] 23)).alloc (.cells #[.int .u8 p.c0, .int .u8 p.c1, .int .u8 p.c2, .int .u8 p.c3] 28)).alloc (.cells #[.int .i64 0, .int .i64 0, .int .i64 0, .int .i64 0, .slice none 0 0] 26)))) := sw_new w B D p ao n m
  rcases he : empB D with _ | _
  case true =>
    rw [orN_yes he]
    have HE : Hid (empB ⟨D.x0, D.y0, D.x1, D.y1⟩ = true) := he
    obtain ⟨d0, d1, d2, d3, df⟩ := HX.out.d
    clear hn hB hV hb hD ha hx hy hdx hdy hp he
    go_enter Try.func28, Try.ntmps28
    go_wp2_with (go_at_call 15; with_reducible refine Calls.mono (Rc.refEmpty_any D.x0 D.y0 D.x1 D.y1 _) ?_; rintro e w1 ⟨rfl, hb1⟩; rw [HE.out]; replace HX := hid (HX.out.below hb1); clear hb1 d0 d1 d2 d3 df; obtain ⟨z0, z1, z2, z3, z4, zf⟩ := HX.out.z)
    obtain ⟨s0, s1, s2, s3, s4⟩ := set5 z0 z1 z2 z3 z4 (.int .i64 0) (.int .i64 0) (.int .i64 0) (.int .i64 0) (.slice none 0 0)
    refine bodyPost_ret (v := .agg #[.int .i64 0, .int .i64 0, .int .i64 0, .int .i64 0, .slice none 0 0]) (by simp [results, Try.results28, go_sem, s0, s1, s2, s3, s4]) rfl ⟨⟨_, _, _, 0, 0, rfl, oz_nil _ _ _ _⟩, ?_⟩
    exact below_set5 HX.out.low (by omega) _ _ _ _ _
  have HE : Hid (empB ⟨D.x0, D.y0, D.x1, D.y1⟩ = false) := he
  obtain ⟨T, hT⟩ : ∃ T : R, T = ⟨D.x0 - dx, D.y0 - dy, D.x1 - dx, D.y1 - dy⟩ := ⟨_, rfl⟩
  obtain ⟨s1, s2⟩ := shift_area hD he hx hy hdx hdy
  have HTE : Hid (orN T = T) := hid (by rw [hT]; exact orN_no (shift_emp he))
  have HTW : Hid (Wide T ∧ area (grow T (rx : Int) (ry : Int) (rx : Int) (ry : Int)) ≤ 5000 ∧ rx ≤ 255 ∧ ry ≤ 255) := hid (by rw [hT]; exact ⟨s1, by rw [s2]; exact ha, hx, hy⟩)
  have hag : area D ≤ 5000 := Int.le_trans (grow_area hD hx hy) ha
  have hwh : wid D * hei D ≤ 5000 := by
    have := (buf_new hD.ok hag).2.1
    rw [orN_no he] at this
    exact this
  have HSH : Hid ((img T (blurG (atX B f) rx ry)).map (fun q => scaleX p q.c3) = img D (fun x y => scaleX p (softX B f dx dy rx ry x y).c3)) := hid (by rw [hT]; exact shift_img _ _)
  have HEN : Hid ((img T (blurG (atX B f) rx ry)).length = wid D * hei D) := hid (by
    have h1 := congrArg List.length HSH.out
    rw [List.length_map, img_len D] at h1
    exact h1)
  have HD := hid (And.intro hD.ok (And.intro hag hwh))
  have HB := hid (And.intro hn (And.intro (ok_buf hB) trivial))
  have HV := hid hV
  have HBB := hid (And.intro hb hp)
  have HF : Hid (∀ x y, byteX (scaleX p (softX B f dx dy rx ry x y).c3)) := hid (fun x y => scale_byte hp (soft_byte hb _ _ _ _ _ _).2.2.2)
  have HRES : Hid (img (orN D) (fun x y => overX (atX B f x y) (atX D (fun x y => scaleX p (softX B f dx dy rx ry x y).c3) x y)) = img (orN D) (shadX B f dx dy rx ry p)) := hid (by
    apply img_ext
    intro x y hb
    rw [has_orN] at hb
    unfold shadX
    conv => lhs; arg 2; unfold atX
    rw [if_pos hb])
  have HDX : Hid (-33554432 ≤ D.x0 ∧ D.x0 ≤ 33554432 ∧ -33554432 ≤ D.y0 ∧ D.y0 ≤ 33554432 ∧ -33554432 ≤ D.x1 ∧ D.x1 ≤ 33554432 ∧ -33554432 ≤ D.y1 ∧ D.y1 ≤ 33554432) := hid (by unfold Half at hD; omega)
  obtain ⟨i0, i1, i2, i3, i4, i5, i6, i7⟩ := HDX.out
  obtain ⟨j0, j1⟩ := hdx
  obtain ⟨j2, j3⟩ := hdy
  have HTT := hid hT
  clear hn hB hV hb hD ha hx hy hp he hag hwh s1 s2 hT
  obtain ⟨d0, d1, d2, d3, df⟩ := HX.out.d
  obtain ⟨b0, b1, b2, b3, b4, bf⟩ := HX.out.b
  go_enter Try.func28, Try.ntmps28
  go_wp2_with (first
    | (go_at_call 15; with_reducible refine Calls.mono (Rc.refEmpty_any D.x0 D.y0 D.x1 D.y1 _) ?_; rintro e w1 ⟨rfl, hb1⟩; rw [HE.out]; replace HX := hid (HX.out.below hb1); clear hb1 d0 d1 d2 d3 df b0 b1 b2 b3 b4 bf; have hl0 : w.heap.size < w1.heap.size := (by have := HX.out.sz; omega); have hl1 : w.heap.size + 1 < w1.heap.size := (by have := HX.out.sz; omega); obtain ⟨d0, d1, d2, d3, df⟩ := HX.out.d; obtain ⟨b0, b1, b2, b3, b4, bf⟩ := HX.out.b)
    | (rw [show (.agg #[.int .i64 (D.x0 - dx), .int .i64 (D.y0 - dy), .int .i64 (D.x1 - dx), .int .i64 (D.y1 - dy)] : Value) = .agg #[.int .i64 T.x0, .int .i64 T.y0, .int .i64 T.x1, .int .i64 T.y1] by rw [HTT.out]]; go_at_call 58; with_reducible refine Calls.mono (refBox_anyW B ao n m g off f T rx ry _ HB.out.2.1 HB.out.1 (HV.out.below (Rc.via HX.out.low ((Below.refl _ _).alloc (Nat.le_refl _) _))) HBB.out.1 HTW.out.1 HTW.out.2.1 HTW.out.2.2.1 HTW.out.2.2.2) ?_; rintro e w2 ⟨hr, hb2⟩; rw [HTE.out] at hr; obtain ⟨eo, en, em, eg, eoff, rfl, hO, hg1, hg2, hln⟩ := retG hr; have HVe := hid hO.v; have HLN := hid hln; replace HX := hid ((HX.out.below ((Below.refl _ _).alloc (Nat.le_refl _) (.cells #[.int .i64 (D.x0 - dx), .int .i64 (D.y0 - dy), .int .i64 (D.x1 - dx), .int .i64 (D.y1 - dy)] 23))).below hb2); clear hr hO hg1 hg2 hln hb2 d0 d1 d2 d3 df b0 b1 b2 b3 b4 bf; have hm1 : w.heap.size + 1 < w2.heap.size := (by have := HX.out.sz; omega); obtain ⟨d0, d1, d2, d3, df⟩ := HX.out.d))
  have HX0 : Hid (Lr w B D p ao n m w2.heap.size T eo en em eg eoff (img T (blurG (atX B f) rx ry)) (w2.alloc (.cells #[.int .i64 T.x0, .int .i64 T.y0, .int .i64 T.x1, .int .i64 T.y1, .slice eo en em] 26))) := hid ⟨HX.out.below ((Below.refl _ _).alloc (Nat.le_refl _) _), Has5.new rfl _ _ _ _ _ _ _ _, HVe.out.below ((Below.refl _ _).alloc (Nat.le_refl _) _)⟩
  have hen : en ≤ 5000 := by have := HLN.out; have h2 := HEN.out; have h3 := HD.out.2.2; omega
  clear HX HVe d0 d1 d2 d3 df hl0 hl1 hm1
  have HTO : Hid (∀ wr, Below (w2.heap.size + 1) ((w2.alloc (.cells #[.int .i64 T.x0, .int .i64 T.y0, .int .i64 T.x1, .int .i64 T.y1, .slice eo en em] 26)).alloc (.cells #[.int .i64 D.x0, .int .i64 D.y0, .int .i64 D.x1, .int .i64 D.y1, .slice none 0 0] 26)) wr → Lr w B D p ao n m w2.heap.size T eo en em eg eoff (img T (blurG (atX B f) rx ry)) wr) := hid (by
    intro wr hb
    have e : (w2.alloc (.cells #[.int .i64 T.x0, .int .i64 T.y0, .int .i64 T.x1, .int .i64 T.y1, .slice eo en em] 26)).heap.size = w2.heap.size + 1 := by simp
    rw [← e] at hb
    exact HX0.out.below (((Below.refl _ _).alloc (Nat.le_refl _) _).trans hb))
  have HG0 : Hid (Gs ((w2.alloc (.cells #[.int .i64 T.x0, .int .i64 T.y0, .int .i64 T.x1, .int .i64 T.y1, .slice eo en em] 26)).alloc (.cells #[.int .i64 D.x0, .int .i64 D.y0, .int .i64 D.x1, .int .i64 D.y1, .slice none 0 0] 26)) (w2.heap.size + 1) D (((img T (blurG (atX B f) rx ry)).map (fun q => scaleX p q.c3)).take 0) none 0 0 0 0 ((w2.alloc (.cells #[.int .i64 T.x0, .int .i64 T.y0, .int .i64 T.x1, .int .i64 T.y1, .slice eo en em] 26)).alloc (.cells #[.int .i64 D.x0, .int .i64 D.y0, .int .i64 D.x1, .int .i64 D.y1, .slice none 0 0] 26))) := hid ⟨Has5.new (by simp) _ _ _ _ _ _ _ _, oz_nil _ _ _ _, Below.refl _ _⟩
  clear HX0
  generalize ((w2.alloc (.cells #[.int .i64 T.x0, .int .i64 T.y0, .int .i64 T.x1, .int .i64 T.y1, .slice eo en em] 26)).alloc (.cells #[.int .i64 D.x0, .int .i64 D.y0, .int .i64 D.x1, .int .i64 D.y1, .slice none 0 0] 26)) = Wb at HG0 HTO ⊢
  generalize w2.heap.size = k16 at HG0 HTO ⊢
  go_loopg [18] en (fun gh v18 wr => ∃ (i : Nat) (oo : Option Addr) (om og ooff : Nat), i ≤ en ∧ gh = en - i ∧ v18 = .int .i64 (i : Int) ∧ Gs Wb (k16 + 1) D (((img T (blurG (atX B f) rx ry)).map (fun q => scaleX p q.c3)).take i) oo i om og ooff wr)
  case atStart => exact ⟨0, _, _, _, _, Nat.zero_le _, rfl, rfl, HG0.out⟩
  case round =>
    clear HG0
    obtain ⟨i, oo, om, og, ooff, hi, rfl, rfl, hG⟩ := hrel
    have HG := hid hG
    have HX := hid (HTO.out _ hG.low)
    obtain ⟨h0, h1, h2, h3, h4, hf⟩ := HX.out.h
    by_cases hil : i < en
    · have hiz : (i : Int) < (en : Int) := by omega
      obtain ⟨s, hs⟩ : ∃ s, (img T (blurG (atX B f) rx ry))[i]? = some s := ⟨_, List.getElem?_eq_getElem (by have := HLN.out; omega)⟩
      have HH := hid hs
      have HST := hid (take_map (s := (fun q => scaleX p q.c3)) hs)
      have hsb : byteX s := by
        obtain ⟨x, y, hxy⟩ := img_mem (List.mem_of_getElem? hs)
        rw [hxy]
        exact blur_byte (at_byte HBB.out.1) _ _ _ _
      have HSB : Hid (0 ≤ s.c3 ∧ s.c3 ≤ 255) := hid hsb.2.2.2
      obtain ⟨rfl, -, -, -, -⟩ := vx_at HX.out.v hs
      have hon : i ≤ 1000000 := by omega
      clear hG hs hsb
      go_wp2
      replace HG := hid (HG.out.below (Below.refl _ _).drew)
      replace HX := hid (HX.out.below (Below.refl _ _).drew)
      clear h0 h1 h2 h3 h4 hf
      refine wp_region_held_drew (S := (fun w' => w'.cell? ⟨(w.heap.size + 1 + 1), 0, none⟩ = some (.int .u8 p.c0) ∧ w'.cell? ⟨(w.heap.size + 1 + 1), 1, none⟩ = some (.int .u8 p.c1) ∧ w'.cell? ⟨(w.heap.size + 1 + 1), 2, none⟩ = some (.int .u8 p.c2) ∧ w'.cell? ⟨(w.heap.size + 1 + 1), 3, none⟩ = some (.int .u8 p.c3) ∧ w'.cell? ⟨k16, 4, none⟩ = some (.slice (some ⟨eg, eoff, none⟩) en em) ∧ w'.cell? ⟨eg, eoff + i * 4 + 3, none⟩ = some (.int .u8 s.c3))) (by kernel_rfl) ?_ (fun hHeld => ?_)
      · exact ⟨HX.out.x.q.c0, HX.out.x.q.c1, HX.out.x.q.c2, HX.out.x.q.c3, HX.out.h.c4, (vx_at HX.out.v HH.out).2.2.2.2⟩
      generalize wr.drew = wd at HG HX hHeld ⊢
      obtain ⟨o0, o1, o2, o3, o4, of4⟩ := HG.out.o
      refine wpAnyH_take (i := 1) (oi := { dst := some 54, op := Op.load 28 (Operand.tmp 13), type := 28, pos := "ref.go:76", after := #[], guard := none }) (v := ?_) rfl (by kernel_rfl) (by kernel_rfl) (by kernel_rfl) (fun _ _ _ h => h) (Or.inl ⟨by rfl, ?hy⟩) (by assumption) ?_
      case hy => (intro w hSw; (try dsimp only at hSw); go_simp; first | done | with_reducible rfl)
      try simp only [Act.put, List.setIfInBounds_toArray, List.set_cons_zero, List.set_cons_succ]
      refine wpAnyH_take (i := 2) (oi := { dst := some 55, op := Op.fieldAddr 26 (Operand.tmp 16) 1, type := 0, pos := "ref.go:76", after := #[], guard := none }) (v := ?_) rfl (by kernel_rfl) (by kernel_rfl) (by kernel_rfl) (fun _ _ _ h => h) (Or.inl ⟨by rfl, ?hy⟩) (by assumption) ?_
      case hy => (intro w hSw; (try dsimp only at hSw); go_simp; first | done | with_reducible rfl)
      try simp only [Act.put, List.setIfInBounds_toArray, List.set_cons_zero, List.set_cons_succ]
      refine wpAnyH_take (i := 3) (oi := { dst := some 56, op := Op.load 24 (Operand.tmp 55), type := 24, pos := "ref.go:76", after := #[{ on := 2, ground := Ground.data }], guard := none }) (v := ?_) rfl (by kernel_rfl) (by kernel_rfl) (by kernel_rfl) (fun _ _ _ h => h) (Or.inl ⟨by rfl, ?hy⟩) (by assumption) ?_
      case hy => (intro w hSw; (try dsimp only at hSw); go_simp; first | done | with_reducible rfl)
      try simp only [Act.put, List.setIfInBounds_toArray, List.set_cons_zero, List.set_cons_succ]
      refine wpAnyH_take (i := 4) (oi := { dst := some 57, op := Op.move (Operand.tmp 18), type := 3, pos := "ref.go:76", after := #[], guard := none }) (v := ?_) rfl (by kernel_rfl) (by kernel_rfl) (by kernel_rfl) (fun _ _ _ h => h) (Or.inl ⟨by rfl, ?hy⟩) (by assumption) ?_
      case hy => (intro w hSw; (try dsimp only at hSw); go_simp; first | done | with_reducible rfl)
      try simp only [Act.put, List.setIfInBounds_toArray, List.set_cons_zero, List.set_cons_succ]
      refine wpAnyH_take (i := 5) (oi := { dst := some 58, op := Op.indexAddr 24 (Operand.tmp 56) (Operand.tmp 57), type := 0, pos := "ref.go:76", after := #[{ on := 3, ground := Ground.data }, { on := 4, ground := Ground.data }], guard := none }) (v := ?_) rfl (by kernel_rfl) (by kernel_rfl) (by kernel_rfl) (fun _ _ _ h => h) (Or.inl ⟨by rfl, ?hy⟩) (by assumption) ?_
      case hy => (intro w hSw; (try dsimp only at hSw); go_simp; first | done | with_reducible rfl)
      try simp only [Act.put, List.setIfInBounds_toArray, List.set_cons_zero, List.set_cons_succ]
      refine wpAnyH_take (i := 6) (oi := { dst := some 59, op := Op.indexAddr 28 (Operand.tmp 58) (Operand.const (Value.int IntKind.i64 3)), type := 0, pos := "ref.go:76", after := #[{ on := 5, ground := Ground.data }], guard := none }) (v := ?_) rfl (by kernel_rfl) (by kernel_rfl) (by kernel_rfl) (fun _ _ _ h => h) (Or.inl ⟨by rfl, ?hy⟩) (by assumption) ?_
      case hy => (intro w hSw; (try dsimp only at hSw); go_simp; first | done | with_reducible rfl)
      try simp only [Act.put, List.setIfInBounds_toArray, List.set_cons_zero, List.set_cons_succ]
      refine wpAnyH_take (i := 7) (oi := { dst := some 60, op := Op.load 5 (Operand.tmp 59), type := 5, pos := "ref.go:76", after := #[{ on := 6, ground := Ground.data }], guard := none }) (v := ?_) rfl (by kernel_rfl) (by kernel_rfl) (by kernel_rfl) (fun _ _ _ h => h) (Or.inl ⟨by rfl, ?hy⟩) (by assumption) ?_
      case hy => (intro w hSw; (try dsimp only at hSw); go_simp; first | done | with_reducible rfl)
      try simp only [Act.put, List.setIfInBounds_toArray, List.set_cons_zero, List.set_cons_succ]
      refine wpAnyH_ready (rs := [0, 8]) (by kernel_rfl) (by simp) ?_
      refine AllReadyH.cons (o := { dst := some 53, op := Op.load 26 (Operand.tmp 17), type := 26, pos := "ref.go:76", after := #[], guard := none }) rfl (fun K hK => ?_) (AllReadyH.cons (o := { dst := some 61, op := Op.call { callee := Callee.value (Operand.func 59), args := #[Operand.tmp 54, Operand.tmp 60], argTypes := #[28, 5] }, type := 28, pos := "ref.go:76", after := #[{ on := 1, ground := Ground.data }, { on := 7, ground := Ground.data }], guard := none }) rfl (fun K hK => ?_) AllReadyH.nil)
      · go_simp
        refine hK.out _ _ ?_ (fun hHeld => ?_)
        · exact ⟨HX.out.x.q.c0, HX.out.x.q.c1, HX.out.x.q.c2, HX.out.x.q.c3, HX.out.h.c4, (vx_at HX.out.v HH.out).2.2.2.2⟩
        clear hK K
        try simp only [Act.put, List.setIfInBounds_toArray, List.set_cons_zero, List.set_cons_succ]
        refine wpAnyH_ready (rs := [8]) (by kernel_rfl) (by simp) ?_
        refine AllReadyH.cons (o := { dst := some 61, op := Op.call { callee := Callee.value (Operand.func 59), args := #[Operand.tmp 54, Operand.tmp 60], argTypes := #[28, 5] }, type := 28, pos := "ref.go:76", after := #[{ on := 1, ground := Ground.data }, { on := 7, ground := Ground.data }], guard := none }) rfl (fun K hK => ?_) AllReadyH.nil
        go_simp
        (go_at_call 59; with_reducible refine Calls.mono (refScale4 p s.c3 _ HBB.out.2 HSB.out) ?_; rintro e wc ⟨rfl, hb⟩; replace HX := hid (HX.out.below hb); replace HG := hid (HG.out.below hb); (try clear o0 o1 o2 o3 o4 of4); obtain ⟨o0, o1, o2, o3, o4, of4⟩ := HG.out.o; clear hb)
        go_wp2_with fail
        refine hK.out _ _ ?_ (fun hHeld => ?_)
        · exact ⟨HX.out.x.q.c0, HX.out.x.q.c1, HX.out.x.q.c2, HX.out.x.q.c3, HX.out.h.c4, (vx_at HX.out.v HH.out).2.2.2.2⟩
        clear hK K
        try simp only [Act.put, List.setIfInBounds_toArray, List.set_cons_zero, List.set_cons_succ]
        refine wpAnyH_ready (rs := [9]) (by kernel_rfl) (by simp) ?_
        refine AllReadyH.cons (o := { dst := some 62, op := Op.call { callee := Callee.value (Operand.func 47), args := #[Operand.tmp 53, Operand.tmp 61], argTypes := #[26, 28] }, type := 26, pos := "ref.go:76", after := #[{ on := 0, ground := Ground.data }, { on := 8, ground := Ground.data }, { on := 8, ground := Ground.chain }], guard := none }) rfl (fun K hK => ?_) AllReadyH.nil
        go_simp
        (go_at_call 47; with_reducible refine Calls.mono (with4 ((k16 + 1) + 1) D oo i om og ooff (((img T (blurG (atX B f) rx ry)).map (fun q => scaleX p q.c3)).take i) (scaleX p s.c3).c0 (scaleX p s.c3).c1 (scaleX p s.c3).c2 (scaleX p s.c3).c3 _ HG.out.x (Nat.succ_le_of_lt HG.out.lt) hon) ?_; rintro e w5 hr; obtain ⟨oo', om', og', ooff', rfl, hO5, hB5, hK5⟩ := retA hr; have H5 := hid (HG.out.o.block (hB5.block (k16 + 1) (Nat.lt_succ_self _))); replace HX := hid (HTO.out _ (HG.out.low.trans (hB5.mono (Nat.le_succ _)))); have HG5 := hid (HG.out.next hO5 hB5 H5.out); clear hr hO5 hB5 hK5; (try clear o0 o1 o2 o3 o4 of4); obtain ⟨o0, o1, o2, o3, o4, of4⟩ := H5.out)
        go_wp2_with fail
        refine hK.out _ _ ?_ (fun hHeld => ?_)
        · exact ⟨HX.out.x.q.c0, HX.out.x.q.c1, HX.out.x.q.c2, HX.out.x.q.c3, HX.out.h.c4, (vx_at HX.out.v HH.out).2.2.2.2⟩
        clear hK K
        try simp only [Act.put, List.setIfInBounds_toArray, List.set_cons_zero, List.set_cons_succ]
        refine wpAnyH_ready (rs := [10]) (by kernel_rfl) (by simp) ?_
        refine AllReadyH.cons (o := { dst := none, op := Op.store 26 (Operand.tmp 17) (Operand.tmp 62), type := 0, pos := "ref.go:76", after := #[{ on := 9, ground := Ground.data }, { on := 9, ground := Ground.chain }, { on := 0, ground := Ground.phase }, { on := 1, ground := Ground.phase }, { on := 2, ground := Ground.phase }, { on := 3, ground := Ground.phase }, { on := 4, ground := Ground.phase }, { on := 5, ground := Ground.phase }, { on := 6, ground := Ground.phase }, { on := 7, ground := Ground.phase }, { on := 8, ground := Ground.phase }, { on := 9, ground := Ground.phase }], guard := none }) rfl (fun K hK => ?_) AllReadyH.nil
        go_simp
        refine hK.out _ _ ?_ (fun hHeld => ?_)
        · have hXn := HTO.out _ HG5.out.low
          exact ⟨hXn.x.q.c0, hXn.x.q.c1, hXn.x.q.c2, hXn.x.q.c3, hXn.h.c4, (vx_at hXn.v HH.out).2.2.2.2⟩
        clear hK K
        try simp only [Act.put, List.setIfInBounds_toArray, List.set_cons_zero, List.set_cons_succ]
        refine wpAnyH_done (by kernel_rfl) ?_ _
        go_wp2
        go_roundg (en - (i + 1))
        case measure => omega
        case rel =>
          refine ⟨i + 1, oo', om', og', ooff', by omega, rfl, by simp, ?_⟩
          have h9 := HG5.out
          rw [show (⟨(scaleX p s.c3).c0, (scaleX p s.c3).c1, (scaleX p s.c3).c2, (scaleX p s.c3).c3⟩ : X) = scaleX p s.c3 from rfl, HST.out] at h9
          exact h9
      · go_simp
        (go_at_call 59; with_reducible refine Calls.mono (refScale4 p s.c3 _ HBB.out.2 HSB.out) ?_; rintro e wc ⟨rfl, hb⟩; replace HX := hid (HX.out.below hb); replace HG := hid (HG.out.below hb); (try clear o0 o1 o2 o3 o4 of4); obtain ⟨o0, o1, o2, o3, o4, of4⟩ := HG.out.o; clear hb)
        go_wp2_with fail
        refine hK.out _ _ ?_ (fun hHeld => ?_)
        · exact ⟨HX.out.x.q.c0, HX.out.x.q.c1, HX.out.x.q.c2, HX.out.x.q.c3, HX.out.h.c4, (vx_at HX.out.v HH.out).2.2.2.2⟩
        clear hK K
        try simp only [Act.put, List.setIfInBounds_toArray, List.set_cons_zero, List.set_cons_succ]
        refine wpAnyH_ready (rs := [0]) (by kernel_rfl) (by simp) ?_
        refine AllReadyH.cons (o := { dst := some 53, op := Op.load 26 (Operand.tmp 17), type := 26, pos := "ref.go:76", after := #[], guard := none }) rfl (fun K hK => ?_) AllReadyH.nil
        go_simp
        refine hK.out _ _ ?_ (fun hHeld => ?_)
        · exact ⟨HX.out.x.q.c0, HX.out.x.q.c1, HX.out.x.q.c2, HX.out.x.q.c3, HX.out.h.c4, (vx_at HX.out.v HH.out).2.2.2.2⟩
        clear hK K
        try simp only [Act.put, List.setIfInBounds_toArray, List.set_cons_zero, List.set_cons_succ]
        refine wpAnyH_ready (rs := [9]) (by kernel_rfl) (by simp) ?_
        refine AllReadyH.cons (o := { dst := some 62, op := Op.call { callee := Callee.value (Operand.func 47), args := #[Operand.tmp 53, Operand.tmp 61], argTypes := #[26, 28] }, type := 26, pos := "ref.go:76", after := #[{ on := 0, ground := Ground.data }, { on := 8, ground := Ground.data }, { on := 8, ground := Ground.chain }], guard := none }) rfl (fun K hK => ?_) AllReadyH.nil
        go_simp
        (go_at_call 47; with_reducible refine Calls.mono (with4 ((k16 + 1) + 1) D oo i om og ooff (((img T (blurG (atX B f) rx ry)).map (fun q => scaleX p q.c3)).take i) (scaleX p s.c3).c0 (scaleX p s.c3).c1 (scaleX p s.c3).c2 (scaleX p s.c3).c3 _ HG.out.x (Nat.succ_le_of_lt HG.out.lt) hon) ?_; rintro e w5 hr; obtain ⟨oo', om', og', ooff', rfl, hO5, hB5, hK5⟩ := retA hr; have H5 := hid (HG.out.o.block (hB5.block (k16 + 1) (Nat.lt_succ_self _))); replace HX := hid (HTO.out _ (HG.out.low.trans (hB5.mono (Nat.le_succ _)))); have HG5 := hid (HG.out.next hO5 hB5 H5.out); clear hr hO5 hB5 hK5; (try clear o0 o1 o2 o3 o4 of4); obtain ⟨o0, o1, o2, o3, o4, of4⟩ := H5.out)
        go_wp2_with fail
        refine hK.out _ _ ?_ (fun hHeld => ?_)
        · exact ⟨HX.out.x.q.c0, HX.out.x.q.c1, HX.out.x.q.c2, HX.out.x.q.c3, HX.out.h.c4, (vx_at HX.out.v HH.out).2.2.2.2⟩
        clear hK K
        try simp only [Act.put, List.setIfInBounds_toArray, List.set_cons_zero, List.set_cons_succ]
        refine wpAnyH_ready (rs := [10]) (by kernel_rfl) (by simp) ?_
        refine AllReadyH.cons (o := { dst := none, op := Op.store 26 (Operand.tmp 17) (Operand.tmp 62), type := 0, pos := "ref.go:76", after := #[{ on := 9, ground := Ground.data }, { on := 9, ground := Ground.chain }, { on := 0, ground := Ground.phase }, { on := 1, ground := Ground.phase }, { on := 2, ground := Ground.phase }, { on := 3, ground := Ground.phase }, { on := 4, ground := Ground.phase }, { on := 5, ground := Ground.phase }, { on := 6, ground := Ground.phase }, { on := 7, ground := Ground.phase }, { on := 8, ground := Ground.phase }, { on := 9, ground := Ground.phase }], guard := none }) rfl (fun K hK => ?_) AllReadyH.nil
        go_simp
        refine hK.out _ _ ?_ (fun hHeld => ?_)
        · have hXn := HTO.out _ HG5.out.low
          exact ⟨hXn.x.q.c0, hXn.x.q.c1, hXn.x.q.c2, hXn.x.q.c3, hXn.h.c4, (vx_at hXn.v HH.out).2.2.2.2⟩
        clear hK K
        try simp only [Act.put, List.setIfInBounds_toArray, List.set_cons_zero, List.set_cons_succ]
        refine wpAnyH_done (by kernel_rfl) ?_ _
        go_wp2
        go_roundg (en - (i + 1))
        case measure => omega
        case rel =>
          refine ⟨i + 1, oo', om', og', ooff', by omega, rfl, by simp, ?_⟩
          have h9 := HG5.out
          rw [show (⟨(scaleX p s.c3).c0, (scaleX p s.c3).c1, (scaleX p s.c3).c2, (scaleX p s.c3).c3⟩ : X) = scaleX p s.c3 from rfl, HST.out] at h9
          exact h9
    · obtain rfl : en = i := by omega
      have HO : Hid (Ox ((k16 + 1) + 1) wr oo en om og ooff (img D (fun x y => scaleX p (softX B f dx dy rx ry x y).c3))) := by
        have h1 := hG.x
        rw [List.take_of_length_le (by rw [List.length_map]; have := HLN.out; omega), HSH.out] at h1
        exact hid h1
      have HVw : Hid (Vx wr ao n m g off (img B f)) := hid (HV.out.below HX.out.x.low)
      obtain ⟨b0, b1, b2, b3, b4, bf⟩ := HX.out.x.b
      obtain ⟨d0, d1, d2, d3, df⟩ := HX.out.x.d
      obtain ⟨o0, o1, o2, o3, o4, of4⟩ := hG.o
      clear hG
      go_wp2_with (go_at_call 60; with_reducible refine Calls.mono (refOverB_any B ao n m g off f D oo en om og ooff (fun x y => scaleX p (softX B f dx dy rx ry x y).c3) D _ HB.out.2.1 HB.out.1 HVw.out HBB.out.1 HD.out.1 hen HO.out.v HF.out HD.out.1 HD.out.2.1) ?_; rintro e w7 ⟨hr, hb⟩; rw [HRES.out] at hr; obtain ⟨ro, rn, rm, rg, roff, rfl, hO, hg1, hg2, hln⟩ := retG hr; have HR := hid (And.intro (hO.mono (Nat.le_trans HX.out.x.low.size (Nat.le_refl _))) (Nat.le_trans HX.out.x.sz hg1)); replace HX := hid (HX.out.below hb); clear hr hO hg1 hg2 hln hb b0 b1 b2 b3 b4 bf d0 d1 d2 d3 df o0 o1 o2 o3 o4 of4 h0 h1 h2 h3 h4 hf; obtain ⟨z0, z1, z2, z3, z4, zf⟩ := HX.out.x.z)
      obtain ⟨s0, s1, s2, s3, s4⟩ := set5 z0 z1 z2 z3 z4 (.int .i64 (orN D).x0) (.int .i64 (orN D).y0) (.int .i64 (orN D).x1) (.int .i64 (orN D).y1) (.slice ro rn rm)
      refine bodyPost_ret (v := .agg #[.int .i64 (orN D).x0, .int .i64 (orN D).y0, .int .i64 (orN D).x1, .int .i64 (orN D).y1, .slice ro rn rm]) (by simp [results, Try.results28, go_sem, s0, s1, s2, s3, s4]) rfl ⟨⟨_, _, _, rg, roff, rfl, ?_⟩, ?_⟩
      · exact HR.out.1.but (but_set5 _ _ _ _ _ _ _) (fun _ => by have := HR.out.2; omega)
      · exact below_set5 HX.out.x.low (by omega) _ _ _ _ _
end Go.Proofs.Ytfgfgfmimejpdaa
