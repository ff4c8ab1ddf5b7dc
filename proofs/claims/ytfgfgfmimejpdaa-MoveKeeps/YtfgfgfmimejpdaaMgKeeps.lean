import Derived.Test.YtfgfgfmimejpdaaSmall
import Derived.Deep.LoopGhost
import Derived.Deep.Light
import Derived.Test.YtfgfgfmimejpdaaTileB
import Derived.Test.YtfgfgfmimejpdaaMoves1
import Derived.BigQuiet
import Derived.Deep.QuietTactic
import Derived.Test.YtfgfgfmimejpdaaOpen
import Derived.Test.YtfgfgfmimejpdaaOwn
import Derived.Test.YtfgfgfmimejpdaaRightB
import Derived.Test.YtfgfgfmimejpdaaImg
import Derived.ProofKit
import Derived.OpenShut
import Derived.RowKit3
import Derived.Carry
import Derived.Deep.Slices
import Derived.Laws.IdiomArrays
import Derived.Test.YtfgfgfmimejpdaaBlurNum
import Derived.Test.YtfgfgfmimejpdaaAtB
import Derived.Outline
import Derived.Handy
import Derived.WalkLawsBesides
import Derived.RegionTactic
import Derived.Deep.RegionHeld3
import Derived.Deep.DrawnRows
import Derived.Test.YtfgfgfmimejpdaaCopyS
import Derived.Test.YtfgfgfmimejpdaaBoth
import Derived.Test.YtfgfgfmimejpdaaWith
import Derived.Test.YtfgfgfmimejpdaaRMoves
/- Whether two buffers are the same: the contract. -/
namespace Go.Proofs.Ytfgfgfmimejpdaa
open Num Go.RowKit
set_option linter.unusedVariables false
set_option linter.unusedSimpArgs false
attribute [local go_sem ↓] eqR

/-- two pixels that are the same are equal -/
theorem eqPx (r g b a : Int) (w : World) : (Op.equalIn 10000 28 (.agg #[.int .u8 r, .int .u8 g, .int .u8 b, .int .u8 a]) (.agg #[.int .u8 r, .int .u8 g, .int .u8 b, .int .u8 a])).run Try.prog w = .ok true w := by
  have u3 := Try.underlying5
  have a3 := Try.isAgg5
  have z3 := Try.sizeOf5
  rw [show (10000 : Nat) = 9999 + 1 from rfl, Op.equalIn]
  simp only [Sem.run_bind, run_underlying Try.underlying28, Result.andThen_ok]
  simp only [Std.Legacy.Range.forIn_eq_forIn_range', Std.Legacy.Range.size, Nat.sub_zero, Nat.add_sub_cancel, Nat.div_one, List.range'_succ, List.range'_zero, List.forIn_cons, List.forIn_nil]
  go_simp
attribute [local go_sem ↓] eqPx
attribute [local go_sem] eq4_same

set_option maxRecDepth 100000 in
set_option maxHeartbeats 1000000 in
theorem same_yes (B : R) (ao : Option Addr) (n c b off : Nat) (ao' : Option Addr) (c' b' off' : Nat) (l : List X) (w : World) (h : Vx w ao n c b off l) (h' : Vx w ao' n c' b' off' l) :
    Calls Try.prog 17 #[.agg #[.int .i64 B.x0, .int .i64 B.y0, .int .i64 B.x1, .int .i64 B.y1, .slice ao n c], .agg #[.int .i64 B.x0, .int .i64 B.y0, .int .i64 B.x1, .int .i64 B.y1, .slice ao' n c']] w fun e w' => e = .returned (.bool true) ∧ Below w.heap.size w w' := by
  have hn := vx_small h
  have HV := hid (And.intro h h')
  have hl := hid (vx_len h)
  clear h h'
  have hA : Has5 ((w.alloc (.cells #[.int .i64 B.x0, .int .i64 B.y0, .int .i64 B.x1, .int .i64 B.y1, .slice ao n c] 26)).alloc (.cells #[.int .i64 B.x0, .int .i64 B.y0, .int .i64 B.x1, .int .i64 B.y1, .slice ao' n c'] 26)) w.heap.size B ao n c := (Has5.new rfl _ _ _ _ _ _ _ _).alloc _
  have hC : Has5 ((w.alloc (.cells #[.int .i64 B.x0, .int .i64 B.y0, .int .i64 B.x1, .int .i64 B.y1, .slice ao n c] 26)).alloc (.cells #[.int .i64 B.x0, .int .i64 B.y0, .int .i64 B.x1, .int .i64 B.y1, .slice ao' n c'] 26)) (w.heap.size + 1) B ao' n c' := Has5.new (by simp) _ _ _ _ _ _ _ _
  have hB : Below w.heap.size w ((w.alloc (.cells #[.int .i64 B.x0, .int .i64 B.y0, .int .i64 B.x1, .int .i64 B.y1, .slice ao n c] 26)).alloc (.cells #[.int .i64 B.x0, .int .i64 B.y0, .int .i64 B.x1, .int .i64 B.y1, .slice ao' n c'] 26)) := ((Below.refl _ _).alloc (Nat.le_refl _) _).alloc (by simp) _
  have HS := hid (And.intro hA (And.intro hC hB))
  clear hA hC hB
  go_enter Try.func17, Try.ntmps17
  go_wp2
  go_loopg [5] n (fun g i wr => ∃ k : Nat, k ≤ n ∧ g = n - k ∧ i = .int .i64 k ∧ Has5 wr w.heap.size B ao n c ∧ Has5 wr (w.heap.size + 1) B ao' n c' ∧ Below w.heap.size w wr)
  case atStart => exact ⟨0, Nat.zero_le _, rfl, rfl, HS.out.1, HS.out.2.1, HS.out.2.2⟩
  case round =>
    clear HS
    obtain ⟨k, hk, rfl, rfl, hA, hC, hB⟩ := hrel
    have HS := hid (And.intro hA (And.intro hC hB))
    obtain ⟨-, -, -, -, a4, -⟩ := hA
    obtain ⟨-, -, -, -, e4, -⟩ := hC
    by_cases hlt : k < n
    · have hlz : (k : Int) < (n : Int) := by omega
      obtain ⟨r, hr⟩ : ∃ s, l[k]? = some s := ⟨_, List.getElem?_eq_getElem (by rw [hl.out]; exact hlt)⟩
      obtain ⟨rfl, h0, h1, h2, h3⟩ := vx_at (HV.out.1.below hB) hr
      obtain ⟨rfl, g0, g1, g2, g3⟩ := vx_at (HV.out.2.below hB) hr
      clear hr hB
      go_wp2
      go_quiet (fail)
      go_wp2
      go_roundg (n - (k + 1))
      case measure => omega
      case rel => exact ⟨k + 1, hlt, rfl, by simp, HS.out.1.below (below_drewN (Below.refl _ _) _), HS.out.2.1.below (below_drewN (Below.refl _ _) _), below_drewN HS.out.2.2 _⟩
    · obtain rfl : n = k := by omega
      go_wp2
      go_ret
      exact ⟨rfl, hB⟩
end Go.Proofs.Ytfgfgfmimejpdaa
/- The law's own answers that the document fixes: the contract. -/
namespace Go.Proofs.Ytfgfgfmimejpdaa
open Num Go.RowKit
set_option linter.unusedVariables false
set_option linter.unusedSimpArgs false
attribute [local go_sem ↓] eqPx
def pA : X := ⟨1, 1, 1, 1⟩
def qA : X := ⟨2, 2, 2, 2⟩
def bA : R := ⟨0, 0, 2, 1⟩
theorem aw_tile (ao : Option Addr) (m g off : Nat) (w : World) (hV : Vx w ao 2 m g off [pA, qA]) :
    Calls Try.prog 18 #[.agg #[.int .i64 0, .int .i64 0, .int .i64 2, .int .i64 1, .slice ao 2 m], .agg #[.int .i64 (-1), .int .i64 0, .int .i64 3, .int .i64 1], .agg #[.int .i64 0, .int .i64 0, .int .i64 2, .int .i64 1]] w fun e w' => RetB w.heap.size w' e ⟨-1, 0, 3, 1⟩ [⟨2, 2, 2, 2⟩, ⟨1, 1, 1, 1⟩, ⟨2, 2, 2, 2⟩, ⟨1, 1, 1, 1⟩] ∧ Below w.heap.size w w' := by
  have h := tile_any bA ao 2 m g off (unimg bA [pA, qA]) ⟨-1, 0, 3, 1⟩ bA w (by omega) (by decide) (by rw [show img bA (unimg bA [pA, qA]) = [pA, qA] by decide]; exact hV) (by decide) (by decide) (by decide) (by decide)
  rw [show orN ⟨-1, 0, 3, 1⟩ = ⟨-1, 0, 3, 1⟩ by decide, show img ⟨-1, 0, 3, 1⟩ (tileG bA (atX bA (unimg bA [pA, qA]))) = [⟨2, 2, 2, 2⟩, ⟨1, 1, 1, 1⟩, ⟨2, 2, 2, 2⟩, ⟨1, 1, 1, 1⟩] by decide] at h
  exact h
theorem aw_off (ao : Option Addr) (m g off : Nat) (w : World) (hV : Vx w ao 2 m g off [pA, qA]) :
    Calls Try.prog 20 #[.agg #[.int .i64 0, .int .i64 0, .int .i64 2, .int .i64 1, .slice ao 2 m], .agg #[.int .i64 0, .int .i64 0, .int .i64 2, .int .i64 1], .int .i64 1, .int .i64 0] w fun e w' => RetB w.heap.size w' e ⟨0, 0, 2, 1⟩ [⟨0, 0, 0, 0⟩, ⟨1, 1, 1, 1⟩] ∧ Below w.heap.size w w' := by
  have h := offset_any bA ao 2 m g off (unimg bA [pA, qA]) bA 1 0 w (by omega) (by decide) (by rw [show img bA (unimg bA [pA, qA]) = [pA, qA] by decide]; exact hV) (by unfold Ok bA; decide) (by decide) (by decide) (by decide)
  rw [show orN bA = ⟨0, 0, 2, 1⟩ by decide, show img ⟨0, 0, 2, 1⟩ (fun x y => atX bA (unimg bA [pA, qA]) (x - 1) (y - 0)) = [⟨0, 0, 0, 0⟩, ⟨1, 1, 1, 1⟩] by decide] at h
  exact h
theorem len2 {p q : X} {n : Nat} (h : [p, q].length = n) : n = 2 := by simpa using h.symm
theorem len4 {p q r s : X} {n : Nat} (h : [p, q, r, s].length = n) : n = 4 := by simpa using h.symm
structure Aw (w W : World) (k : Nat) (wr : World) : Prop where
  p : Rc.Has4 wr k (.int .u8 1) (.int .u8 1) (.int .u8 1) (.int .u8 1)
  q : Rc.Has4 wr (k + 1) (.int .u8 2) (.int .u8 2) (.int .u8 2) (.int .u8 2)
  b : Has5 wr (k + 1 + 1 + 1) ⟨0, 0, 2, 1⟩ (some ⟨k + 1 + 1, 0, none⟩) 2 2
  v : Vx wr (some ⟨k + 1 + 1, 0, none⟩) 2 2 (k + 1 + 1) 0 [pA, qA]
  low : Below w.heap.size w wr
theorem Aw.below {w W : World} {k : Nat} {wr wr' : World} (h : Aw w W k wr) (hb : Below wr.heap.size wr wr') : Aw w W k wr' := ⟨h.p.below hb, h.q.below hb, h.b.below hb, h.v.below hb, Rc.via h.low hb⟩

set_option maxRecDepth 100000 in
set_option maxHeartbeats 4000000 in
theorem awake_any (w : World) : Calls Try.prog 9 #[] w fun e w' => e = .returned (.bool true) ∧ Below w.heap.size w w' := by
  have HA : Hid (Aw w w w.heap.size (((((w.alloc (.cells #[.int .u8 1, .int .u8 1, .int .u8 1, .int .u8 1] 28)).alloc (.cells #[.int .u8 2, .int .u8 2, .int .u8 2, .int .u8 2] 28)).alloc (.cells #[.int .u8 1, .int .u8 1, .int .u8 1, .int .u8 1, .int .u8 2, .int .u8 2, .int .u8 2, .int .u8 2] 28)).alloc (.cells #[.int .i64 0, .int .i64 0, .int .i64 2, .int .i64 1, .slice (some ⟨w.heap.size + 1 + 1, 0, none⟩) 2 2] 26)))) := by
    have hsz : ((w.alloc (.cells #[.int .u8 1, .int .u8 1, .int .u8 1, .int .u8 1] 28)).alloc (.cells #[.int .u8 2, .int .u8 2, .int .u8 2, .int .u8 2] 28)).heap.size = w.heap.size + 1 + 1 := by simp
    have hv := ox_news (w := (w.alloc (.cells #[.int .u8 1, .int .u8 1, .int .u8 1, .int .u8 1] 28)).alloc (.cells #[.int .u8 2, .int .u8 2, .int .u8 2, .int .u8 2] 28)) (lo := w.heap.size) (by simp; omega) [pA, qA] (by simp) 28
    rw [hsz] at hv
    exact ⟨(((Rc.Has4.new rfl _ _ _ _ _).alloc _).alloc _).alloc _, ((Rc.Has4.new (by simp) _ _ _ _ _).alloc _).alloc _, Has5.new (by simp) _ _ _ _ _ _ _ _, hv.v.below ((Below.refl _ _).alloc (Nat.le_refl _) _), ((((Below.refl _ _).alloc (Nat.le_refl _) _).alloc (by simp) _).alloc (by simp; omega) _).alloc (by simp; omega) _⟩
  go_enter Try.func9, Try.ntmps9
  go_wp2_with (first
    | (go_at_call 18; with_reducible refine Calls.mono (aw_tile _ 2 _ _ _ HA.out.v) ?_; rintro e w1 ⟨hr, hb1⟩; obtain ⟨ao, n1, m1, g1, off1, rfl, hO1⟩ := retB hr; have hn1 := len4 (vx_len hO1.v); subst hn1; have HA1 := hid ((HA.out.below hb1).below ((Below.refl _ _).alloc (Nat.le_refl _) (.cells #[.int .i64 (-1), .int .i64 0, .int .i64 3, .int .i64 1, .slice ao 4 m1] 26))); have H51 := hid (Has5.new (W := w1) (k := w1.heap.size) rfl (-1) 0 3 1 ao 4 m1 26); have HV1 := hid (hO1.v.below ((Below.refl _ _).alloc (Nat.le_refl _) (.cells #[.int .i64 (-1), .int .i64 0, .int .i64 3, .int .i64 1, .slice ao 4 m1] 26))); clear hr hO1 hb1; obtain ⟨b0, b1, b2, b3, b4, bf⟩ := HA1.out.b)
    | (go_at_call 20; with_reducible refine Calls.mono (aw_off _ 2 _ _ _ HA1.out.v) ?_; rintro e w2 ⟨hr, hb2⟩; obtain ⟨co, n2, m2, g2, off2, rfl, hO2⟩ := retB hr; have hn2 := len2 (vx_len hO2.v); subst hn2; have HA2 := hid ((HA1.out.below hb2).below ((Below.refl _ _).alloc (Nat.le_refl _) (.cells #[.int .i64 0, .int .i64 0, .int .i64 2, .int .i64 1, .slice co 2 m2] 26))); have H52 := hid ((H51.out.below hb2).alloc (.cells #[.int .i64 0, .int .i64 0, .int .i64 2, .int .i64 1, .slice co 2 m2] 26)); have HV2 := hid ((HV1.out.below hb2).below ((Below.refl _ _).alloc (Nat.le_refl _) (.cells #[.int .i64 0, .int .i64 0, .int .i64 2, .int .i64 1, .slice co 2 m2] 26))); have H62 := hid (Has5.new (W := w2) (k := w2.heap.size) rfl 0 0 2 1 co 2 m2 26); have HW2 := hid (hO2.v.below ((Below.refl _ _).alloc (Nat.le_refl _) (.cells #[.int .i64 0, .int .i64 0, .int .i64 2, .int .i64 1, .slice co 2 m2] 26))); clear hr hO2 hb2 b0 b1 b2 b3 b4 bf))
  generalize w2.alloc (.cells #[.int .i64 0, .int .i64 0, .int .i64 2, .int .i64 1, .slice co 2 m2] 26) = w3 at HA2 H52 HV2 H62 HW2 ⊢
  obtain ⟨-, -, -, -, b4, -⟩ := H52.out
  obtain ⟨-, -, -, -, f4, -⟩ := H62.out
  obtain ⟨t0, t1, t2, t3, -⟩ := HA2.out.p
  obtain ⟨s0, s1, s2, s3, -⟩ := HA2.out.q
  obtain ⟨rfl, p00, p01, p02, p03⟩ := vx_at0 HV2.out
  obtain ⟨-, p10, p11, p12, p13⟩ := vx_at HV2.out (i := 1) rfl
  obtain ⟨-, p30, p31, p32, p33⟩ := vx_at HV2.out (i := 3) rfl
  obtain ⟨rfl, r00, r01, r02, r03⟩ := vx_at0 HW2.out
  obtain ⟨-, r10, r11, r12, r13⟩ := vx_at HW2.out (i := 1) rfl
  go_quiet (fail)
  go_wp2
  go_ret
  exact ⟨rfl, below_drewN HA2.out.low _⟩
end Go.Proofs.Ytfgfgfmimejpdaa
/- Lists of buffers in memory. -/
namespace Go.Proofs.Ytfgfgfmimejpdaa
open Num Go.ChangeShapes Go.WideShapes Go.ChangeAt Go.RowKit Go.Deep
set_option linter.unusedVariables false
set_option linter.unusedSimpArgs false

/-- a buffer of a list: its box, where its pixels lie, and they -/
structure Bv where
  B : R
  ao : Option Addr
  n : Nat
  m : Nat
  g : Nat
  off : Nat
  l : List X
def cellsV (v : Bv) : List Value := [.int .i64 v.B.x0, .int .i64 v.B.y0, .int .i64 v.B.x1, .int .i64 v.B.y1, .slice v.ao v.n v.m]
def flatB (L : List Bv) : List Value := L.flatMap cellsV
theorem flatB_cons (v : Bv) (L : List Bv) : flatB (v :: L) = .int .i64 v.B.x0 :: .int .i64 v.B.y0 :: .int .i64 v.B.x1 :: .int .i64 v.B.y1 :: .slice v.ao v.n v.m :: flatB L := rfl
theorem flatB_len : ∀ L : List Bv, (flatB L).length = L.length * 5
  | [] => rfl
  | v :: L => by rw [flatB_cons]; simp only [List.length_cons]; rw [flatB_len L]; omega
theorem flatB_at : ∀ {L : List Bv} {i : Nat} {v : Bv}, L[i]? = some v → (flatB L)[i * 5]? = some (.int .i64 v.B.x0) ∧ (flatB L)[i * 5 + 1]? = some (.int .i64 v.B.y0) ∧ (flatB L)[i * 5 + 2]? = some (.int .i64 v.B.x1) ∧ (flatB L)[i * 5 + 3]? = some (.int .i64 v.B.y1) ∧ (flatB L)[i * 5 + 4]? = some (.slice v.ao v.n v.m)
  | v :: L, 0, u, h => by
    simp only [List.getElem?_cons_zero, Option.some.injEq] at h
    subst h
    rw [flatB_cons]
    exact ⟨rfl, rfl, rfl, rfl, rfl⟩
  | v :: L, i + 1, u, h => by
    rw [List.getElem?_cons_succ] at h
    have := flatB_at h
    rw [flatB_cons, show (i + 1) * 5 = i * 5 + 1 + 1 + 1 + 1 + 1 by omega]
    simpa using this
/-- a slice of buffers -/
structure Vb (w : World) (ao : Option Addr) (n c b off : Nat) (L : List Bv) : Prop where
  z : Vz 5 w ao n c b off (flatB L)
  v : ∀ v, v ∈ L → Vx w v.ao v.n v.m v.g v.off v.l
theorem Vb.below {w w' : World} {ao : Option Addr} {n c b off : Nat} {L : List Bv} (h : Vb w ao n c b off L) (hb : Below w.heap.size w w') : Vb w' ao n c b off L := ⟨h.z.below hb, fun v hv => (h.v v hv).below hb⟩
theorem vb_len {w : World} {ao : Option Addr} {n c b off : Nat} {L : List Bv} (h : Vb w ao n c b off L) : L.length = n := by have := h.z.len; rw [flatB_len] at this; omega
theorem vb_at {w : World} {ao : Option Addr} {n c b off : Nat} {L : List Bv} (h : Vb w ao n c b off L) {i : Nat} {v : Bv} (hi : L[i]? = some v) :
    ao = some ⟨b, off, none⟩ ∧ (w.cell? ⟨b, off + i * 5, none⟩ = some (.int .i64 v.B.x0) ∧ w.cell? ⟨b, off + i * 5 + 1, none⟩ = some (.int .i64 v.B.y0) ∧ w.cell? ⟨b, off + i * 5 + 2, none⟩ = some (.int .i64 v.B.x1) ∧ w.cell? ⟨b, off + i * 5 + 3, none⟩ = some (.int .i64 v.B.y1) ∧ w.cell? ⟨b, off + i * 5 + 4, none⟩ = some (.slice v.ao v.n v.m)) ∧ Vx w v.ao v.n v.m v.g v.off v.l := by
  have hl := vb_len h
  have hlt : i < L.length := (List.getElem?_eq_some_iff.1 hi).1
  obtain ⟨e0, e1, e2, e3, e4⟩ := flatB_at hi
  exact ⟨h.z.addr (by have := h.z.le; omega), ⟨h.z.lies _ _ e0, h.z.lies _ _ e1, h.z.lies _ _ e2, h.z.lies _ _ e3, h.z.lies _ _ e4⟩, h.v v (List.mem_of_getElem? hi)⟩
theorem vb_but {g : Nat} {W w : World} {ao : Option Addr} {n c b off : Nat} {L : List Bv} (h : Vb W ao n c b off L) (hb : But g W w) (h1 : 0 < n → b ≠ g) (h2 : ∀ v, v ∈ L → 0 < v.n → v.g ≠ g) : Vb w ao n c b off L := by
  have hz : ∀ {sz : Nat} {ao : Option Addr} {n c b off : Nat} {cs : List Value}, Vz sz W ao n c b off cs → (0 < cs.length → b ≠ g) → Vz sz w ao n c b off cs := by
    intro sz ao n c b off cs h hg
    refine ⟨h.len, h.le, h.max, h.addr, fun j u hu => ?_⟩
    have hj : j < cs.length := (List.getElem?_eq_some_iff.1 hu).1
    exact (World.cell?_of_block (a := ⟨b, off + j, none⟩) (hb.block b (h.lies.lt (by omega)) (hg (by omega)))).trans (h.lies j u hu)
  exact ⟨hz h.z (fun hc => h1 (by have := h.z.len; omega)), fun v hv => hz (h.v v hv) (fun hc => h2 v hv (by have := (h.v v hv).len; omega))⟩
theorem liesB_of {w : World} {b off : Nat} {L : List Bv} (h : ∀ i v, L[i]? = some v → w.cell? ⟨b, off + i * 5, none⟩ = some (.int .i64 v.B.x0) ∧ w.cell? ⟨b, off + i * 5 + 1, none⟩ = some (.int .i64 v.B.y0) ∧ w.cell? ⟨b, off + i * 5 + 2, none⟩ = some (.int .i64 v.B.x1) ∧ w.cell? ⟨b, off + i * 5 + 3, none⟩ = some (.int .i64 v.B.y1) ∧ w.cell? ⟨b, off + i * 5 + 4, none⟩ = some (.slice v.ao v.n v.m)) : Lies w b off (flatB L) := by
  intro j u hu
  have hj : j < (flatB L).length := (List.getElem?_eq_some_iff.1 hu).1
  rw [flatB_len] at hj
  obtain ⟨r, hr⟩ : ∃ r, L[j / 5]? = some r := ⟨_, List.getElem?_eq_getElem (by omega)⟩
  obtain ⟨c0, c1, c2, c3, c4⟩ := h _ r hr
  obtain ⟨e0, e1, e2, e3, e4⟩ := flatB_at hr
  have hm : j % 5 = 0 ∨ j % 5 = 1 ∨ j % 5 = 2 ∨ j % 5 = 3 ∨ j % 5 = 4 := by omega
  rcases hm with hm | hm | hm | hm | hm
  · rw [show j / 5 * 5 = j by omega] at e0 c0
    rw [c0, ← hu, e0]
  · rw [show j / 5 * 5 + 1 = j by omega] at e1
    rw [show off + j / 5 * 5 + 1 = off + j by omega] at c1
    rw [c1, ← hu, e1]
  · rw [show j / 5 * 5 + 2 = j by omega] at e2
    rw [show off + j / 5 * 5 + 2 = off + j by omega] at c2
    rw [c2, ← hu, e2]
  · rw [show j / 5 * 5 + 3 = j by omega] at e3
    rw [show off + j / 5 * 5 + 3 = off + j by omega] at c3
    rw [c3, ← hu, e3]
  · rw [show j / 5 * 5 + 4 = j by omega] at e4
    rw [show off + j / 5 * 5 + 4 = off + j by omega] at c4
    rw [c4, ← hu, e4]
theorem vb_nil (w : World) (ao : Option Addr) : Vb w ao 0 0 0 0 [] := ⟨(oz_nil 5 0 w ao).v, fun v hv => by cases hv⟩

theorem cells42 : Try.prog.cellsOf 42 = 1 := by kernel_rfl
theorem open_five {H : Type} {enc : TypeId × Value → H} {W : World} {fuel : Nat} {c0 c1 c2 c3 c4 : Value} {x : DataW H × List MemPlace} (hf : DataW.trod enc Try.prog W 0 (fun _ => true) true fuel 26 [c0, c1, c2, c3, c4] = some x) :
    ∃ (B : R) (ao : Option Addr) (n c g off : Nat) (l : List X), (c0 = .int .i64 B.x0 ∧ c1 = .int .i64 B.y0 ∧ c2 = .int .i64 B.x1 ∧ c3 = .int .i64 B.y1 ∧ c4 = .slice ao n c) ∧ Vx W ao n c g off l ∧ ∀ p, p ∈ l → byteX p := by
  obtain ⟨xs, n, _, hx, hl, hlen, hg⟩ := DataW.trod_struct Try.underlying26 hf
  match xs, hlen with
  | [y0, y1], _ =>
    have g0 := hg 0 _ rfl
    have g1 := hg 1 _ rfl
    simp [cells23, cells24, Value.cells] at g0 g1
    obtain ⟨x0, x1, x2, x3, rfl, rfl, rfl, rfl⟩ := open_four g0
    obtain ⟨ao, m, c, b, off, l, rfl, hV, hB⟩ := open_pixels g1
    exact ⟨⟨x0, x1, x2, x3⟩, ao, m, c, b, off, l, ⟨rfl, rfl, rfl, rfl, rfl⟩, hV, hB⟩
theorem open_bufs' {H : Type} {enc : TypeId × Value → H} {W : World} {fuel : Nat} {u : Value} {x : DataW H × List MemPlace} (hf : DataW.trod enc Try.prog W 0 (fun _ => true) true fuel 42 [u] = some x) : ∃ ao n c b off L, u = .slice ao n c ∧ Vb W ao n c b off L ∧ ∀ v, v ∈ L → ∀ p, p ∈ v.l → byteX p := by
  rcases open_slice Try.underlying42 hf with ⟨hcs, -⟩ | ⟨a, len, cap, m, n', D, Pl, hcs, -, hl, hmx, hmm, -, hx⟩
  · simp at hcs
    subst hcs
    exact ⟨_, _, _, 0, 0, [], rfl, vb_nil _ _, fun v hv => by cases hv⟩
  · simp at hcs
    subst hcs
    have hmc : m = cap := by simpa using hmm
    subst hmc
    rw [cells26] at hx
    have each : ∀ i, i < m → ∃ v : Bv, (W.cell? (a.add (i * 5)) = some (.int .i64 v.B.x0) ∧ W.cell? (a.add (i * 5 + 1)) = some (.int .i64 v.B.y0) ∧ W.cell? (a.add (i * 5 + 2)) = some (.int .i64 v.B.x1) ∧ W.cell? (a.add (i * 5 + 3)) = some (.int .i64 v.B.y1) ∧ W.cell? (a.add (i * 5 + 4)) = some (.slice v.ao v.n v.m)) ∧ Vx W v.ao v.n v.m v.g v.off v.l ∧ ∀ p, p ∈ v.l → byteX p := by
      intro i hi
      obtain ⟨cs', h1, h2⟩ := hx i hi
      obtain ⟨_, hlen, hcell⟩ := World.cells?_some h1
      match cs', hlen with
      | [v0, v1, v2, v3, v4], _ =>
        obtain ⟨B, ao, n, c, g, off, l, ⟨rfl, rfl, rfl, rfl, rfl⟩, hV, hB⟩ := open_five h2
        have c0 := hcell 0 (by omega)
        have c1 := hcell 1 (by omega)
        have c2 := hcell 2 (by omega)
        have c3 := hcell 3 (by omega)
        have c4 := hcell 4 (by omega)
        rw [add_add] at c0 c1 c2 c3 c4
        exact ⟨⟨B, ao, n, c, g, off, l⟩, ⟨by simpa using c0, by simpa using c1, by simpa using c2, by simpa using c3, by simpa using c4⟩, hV, hB⟩
    obtain ⟨q, hq⟩ := @choose_lt Bv ⟨⟨nil, none, 0, 0, 0, 0, []⟩⟩ m _ each
    by_cases hm0 : 0 < m
    · obtain ⟨b, off, sp⟩ := a
      have hsp : sp = none := by
        have := (hq 0 hm0).1.1
        rw [show 0 * 5 = 0 from rfl] at this
        cases sp with
        | none => rfl
        | some s =>
          simp only [Addr.add, if_pos, World.cell?] at this
          split at this
          · simp at this
          · cases this
      subst hsp
      refine ⟨_, _, _, b, off, (List.range len).map q, rfl, ⟨⟨by rw [flatB_len]; simp, hl, hmx, fun _ => rfl, liesB_of fun i r hr => ?_⟩, fun v hv => ?_⟩, fun v hv p hp => ?_⟩
      · have hi : i < len := by
          have := (List.getElem?_eq_some_iff.1 hr).1
          simpa using this
        have er : r = q i := by
          rw [List.getElem?_map, List.getElem?_range hi] at hr
          simpa using hr.symm
        subst er
        obtain ⟨⟨c0, c1, c2, c3, c4⟩, -⟩ := hq i (by omega)
        rw [Addr.add_lit] at c0 c1 c2 c3 c4
        exact ⟨c0, by rw [Nat.add_assoc]; exact c1, by rw [Nat.add_assoc]; exact c2, by rw [Nat.add_assoc]; exact c3, by rw [Nat.add_assoc]; exact c4⟩
      · obtain ⟨i, hi, rfl⟩ := List.mem_map.1 hv
        exact (hq i (by have := List.mem_range.1 hi; omega)).2.1
      · obtain ⟨i, hi, rfl⟩ := List.mem_map.1 hv
        exact (hq i (by have := List.mem_range.1 hi; omega)).2.2 p hp
    · obtain rfl : m = 0 := by omega
      obtain rfl : len = 0 := by omega
      exact ⟨_, _, _, 0, 0, [], rfl, vb_nil _ _, fun v hv => by cases hv⟩
end Go.Proofs.Ytfgfgfmimejpdaa
/- The arithmetic of tones and of pixels that are mixed, value by value. -/
namespace Go.Proofs.Ytfgfgfmimejpdaa.Tn
set_option linter.unusedVariables false

/-- the product of two tones, of their product n as whole numbers -/
def rnd (n : Int) : Int := (n + 128 + (n + 128) / 256) / 256
/-- the product of two tones -/
def mulI (a b : Int) : Int := rnd (a * b)
/-- the quotient of two tones ahead of the cut at 255 -/
def quoI (c a : Int) : Int := (510 * c + a) / (2 * a)
/-- the quotient of two tones -/
def divI (c a : Int) : Int := if a = 0 then 0 else if 255 < quoI c a then 255 else quoI c a
/-- the nearest tone -/
def cutI (n : Int) : Int := if n < 0 then 0 else if 255 < n then 255 else n

theorem prod_bd {a b : Int} (ha : 0 ≤ a ∧ a ≤ 255) (hb : 0 ≤ b ∧ b ≤ 255) : 0 ≤ a * b ∧ a * b ≤ 65025 := by
  refine ⟨Int.mul_nonneg ha.1 hb.1, ?_⟩
  have h1 : a * b ≤ 255 * b := Int.mul_le_mul_of_nonneg_right ha.2 hb.1
  omega
theorem rnd_bd {n : Int} (h : 0 ≤ n ∧ n ≤ 65025) : 0 ≤ rnd n ∧ rnd n ≤ 255 := by unfold rnd; omega
theorem mul_bd {a b : Int} (ha : 0 ≤ a ∧ a ≤ 255) (hb : 0 ≤ b ∧ b ≤ 255) : 0 ≤ mulI a b ∧ mulI a b ≤ 255 := rnd_bd (prod_bd ha hb)
theorem rnd_near {n : Int} (h : 0 ≤ n ∧ n ≤ 65025) : 2 * (255 * rnd n - n) < 255 ∧ -255 < 2 * (255 * rnd n - n) := by unfold rnd; omega
theorem mul_comm (a b : Int) : mulI a b = mulI b a := by unfold mulI; rw [Int.mul_comm]
theorem mul_255 {a : Int} (ha : 0 ≤ a ∧ a ≤ 255) : mulI a 255 = a := by unfold mulI rnd; omega
theorem mul_0 (a : Int) : mulI a 0 = 0 := by unfold mulI rnd; simp
theorem rnd_mono {m n : Int} (h : m ≤ n) : rnd m ≤ rnd n := by unfold rnd; omega
theorem mul_mono {a b c : Int} (h : a ≤ b) (hc : 0 ≤ c) : mulI a c ≤ mulI b c := rnd_mono (Int.mul_le_mul_of_nonneg_right h hc)
theorem mul_le {a c : Int} (ha : 0 ≤ a ∧ a ≤ 255) (hc : 0 ≤ c ∧ c ≤ 255) : mulI a c ≤ a := by
  have h := mul_mono (a := c) (b := 255) (c := a) hc.2 ha.1
  rw [mul_comm c a, mul_comm 255 a, mul_255 ha] at h
  exact h
theorem mul_le' {a c : Int} (ha : 0 ≤ a ∧ a ≤ 255) (hc : 0 ≤ c ∧ c ≤ 255) : mulI a c ≤ c := by rw [mul_comm]; exact mul_le hc ha
/-- the document's product -/
theorem rnd_ref {n : Int} (h : 0 ≤ n ∧ n ≤ 65025) : rnd n = if 255 < 2 * (n - 255 * (n / 255)) then n / 255 + 1 else n / 255 := by
  unfold rnd; split <;> omega

theorem quo_bd {c a : Int} (hc : 0 ≤ c) (ha : 0 < a) : 0 ≤ quoI c a := Int.ediv_nonneg (by omega) (by omega)
theorem quo_mono {a b c : Int} (h : a ≤ b) (hc : 0 < c) : quoI a c ≤ quoI b c := Int.ediv_le_ediv (by omega) (by omega)
theorem div_bd {c a : Int} (hc : 0 ≤ c) (ha : 0 ≤ a) : 0 ≤ divI c a ∧ divI c a ≤ 255 := by
  unfold divI
  by_cases h : a = 0
  · simp [h]
  · have := quo_bd (c := c) (a := a) hc (by omega)
    rw [if_neg h]; split <;> omega
theorem div_mono {a b c : Int} (h : a ≤ b) (hc : 0 ≤ c) : divI a c ≤ divI b c := by
  unfold divI
  by_cases h0 : c = 0
  · simp [h0]
  · have := quo_mono (a := a) (b := b) (c := c) h (by omega)
    rw [if_neg h0, if_neg h0]; split <;> split <;> omega
/-- the document's quotient, ahead of the cut -/
theorem quo_ref {c a : Int} (ha : 0 < a) :
    quoI c a = if a ≤ 2 * (255 * c - a * (255 * c / a)) then 255 * c / a + 1 else 255 * c / a := by
  have e : 255 * c = a * (255 * c / a) + 255 * c % a := by have := Int.mul_ediv_add_emod (255 * c) a; omega
  have r0 : 0 ≤ 255 * c % a := Int.emod_nonneg _ (by omega)
  have r1 : 255 * c % a < a := Int.emod_lt_of_pos _ ha
  have er : 255 * c - a * (255 * c / a) = 255 * c % a := by omega
  rw [er]
  unfold quoI
  generalize 255 * c / a = q at *
  generalize 255 * c % a = r at *
  have e2 : 510 * c + a = (2 * r + a) + (2 * a) * q := by rw [Int.mul_assoc]; omega
  rw [e2, Int.add_mul_ediv_left _ _ (by omega)]
  split
  · have : (2 * r + a) / (2 * a) = 1 := by
      apply Int.le_antisymm
      · have := Int.ediv_lt_of_lt_mul (a := 2 * r + a) (b := 2) (c := 2 * a) (by omega) (by omega); omega
      · exact Int.le_ediv_of_mul_le (by omega) (by omega)
    omega
  · have : (2 * r + a) / (2 * a) = 0 := Int.ediv_eq_zero_of_lt (by omega) (by omega)
    omega
/-- a right pixel's colour, made plain and thick again, is itself -/
theorem back {c a : Int} (hc : 0 ≤ c) (h : c ≤ a) (ha : a ≤ 255) : mulI (divI c a) a = c := by
  by_cases h0 : a = 0
  · have : c = 0 := by omega
    subst h0 this; decide
  · have ha0 : 0 < a := by omega
    have e := Int.mul_ediv_add_emod (510 * c + a) (2 * a)
    have r0 : 0 ≤ (510 * c + a) % (2 * a) := Int.emod_nonneg _ (by omega)
    have r1 : (510 * c + a) % (2 * a) < 2 * a := Int.emod_lt_of_pos _ (by omega)
    have hq : ¬ 255 < quoI c a := by
      have := Int.ediv_lt_of_lt_mul (a := 510 * c + a) (b := 256) (c := 2 * a) (by omega) (by omega)
      unfold quoI; omega
    unfold divI
    rw [if_neg h0, if_neg hq]
    unfold quoI
    generalize (510 * c + a) / (2 * a) = q at *
    generalize (510 * c + a) % (2 * a) = r at *
    unfold mulI
    have e2 : 2 * a * q = 2 * (q * a) := by rw [Int.mul_assoc, Int.mul_comm a q]
    rw [e2] at e
    generalize q * a = x at *
    unfold rnd
    omega


/-- the share of the pixel on top that an operator takes, of the alphas A (on top) and B -/
def sA (op A B : Int) : Int := if op = 0 then 255 else if op = 1 then B else if op = 2 then 255 - B else if op = 3 then B else if op = 4 then 255 - B else 0
/-- the share of the pixel below -/
def sB (op A B : Int) : Int := if op = 0 then 255 - A else if op = 1 then 0 else if op = 2 then 0 else if op = 3 then 255 - A else if op = 4 then 255 - A else 0
/-- one value by an operator -/
def cmp (op a b A B : Int) : Int := cutI (mulI a (sA op A B) + mulI b (sB op A B))
/-- one value by an operator, ahead of the cut, as the document has it -/
def doc (op a b A B : Int) : Int := if op = 0 then a + mulI b (255 - A) else if op = 1 then mulI a B else if op = 2 then mulI a (255 - B) else if op = 3 then mulI a B + mulI b (255 - A) else if op = 4 then mulI a (255 - B) + mulI b (255 - A) else 0
/-- the less and the greater of two numbers -/
def mn (a b : Int) : Int := min a b
def mx (a b : Int) : Int := max a b
/-- what is of each colour where the other one's pixel isn't -/
def aprt (a b A B : Int) : Int := mulI a (255 - B) + mulI b (255 - A)
/-- one colour by a mode other than Normal, ahead of the cut -/
def col (m a b A B : Int) : Int := if m = 1 then mulI a b + aprt a b A B else if m = 2 then a + b - mulI a b else if m = 3 then mn (mulI a B) (mulI b A) + aprt a b A B else if m = 4 then mx (mulI a B) (mulI b A) + aprt a b A B else if m = 5 then a + b - 2 * mn (mulI a B) (mulI b A) else a + b
/-- alpha by a mode other than Normal -/
def cov (m A B : Int) : Int := if m = 6 then cutI (A + B) else cutI (A + B - mulI A B)
/-- one colour by a mode -/
def bl (m a b A B : Int) : Int := if m = 0 then cmp 0 a b A B else mn (cutI (col m a b A B)) (cov m A B)
/-- alpha by a mode -/
def ba (m A B : Int) : Int := if m = 0 then cmp 0 A B A B else cov m A B

theorem cut_bd (n : Int) : 0 ≤ cutI n ∧ cutI n ≤ 255 := by unfold cutI; (repeat' split) <;> omega
theorem cut_id {n : Int} (h : 0 ≤ n ∧ n ≤ 255) : cutI n = n := by unfold cutI; rw [if_neg (by omega), if_neg (by omega)]
theorem cut_mono {m n : Int} (h : m ≤ n) : cutI m ≤ cutI n := by unfold cutI; (repeat' split) <;> omega
theorem sA_bd (op : Int) {A B : Int} (hA : 0 ≤ A ∧ A ≤ 255) (hB : 0 ≤ B ∧ B ≤ 255) : 0 ≤ sA op A B ∧ sA op A B ≤ 255 := by unfold sA; (repeat' split) <;> omega
theorem sB_bd (op : Int) {A B : Int} (hA : 0 ≤ A ∧ A ≤ 255) (hB : 0 ≤ B ∧ B ≤ 255) : 0 ≤ sB op A B ∧ sB op A B ≤ 255 := by unfold sB; (repeat' split) <;> omega
theorem cmp_bd (op a b A B : Int) : 0 ≤ cmp op a b A B ∧ cmp op a b A B ≤ 255 := cut_bd _
theorem cov_bd (m A B : Int) : 0 ≤ cov m A B ∧ cov m A B ≤ 255 := by unfold cov; split <;> exact cut_bd _
theorem ba_bd (m A B : Int) : 0 ≤ ba m A B ∧ ba m A B ≤ 255 := by unfold ba; split; exact cmp_bd _ _ _ _ _; exact cov_bd _ _ _
theorem bl_bd (m a b A B : Int) : 0 ≤ bl m a b A B ∧ bl m a b A B ≤ 255 := by
  have h1 := cut_bd (col m a b A B)
  have h2 := cov_bd m A B
  unfold bl; split
  · exact cmp_bd _ _ _ _ _
  · unfold mn; omega
theorem mul_0' (a : Int) : mulI 0 a = 0 := by rw [mul_comm]; exact mul_0 a
/-- the program's way to an operator is the document's -/
theorem doc_cmp {op a b A B : Int} (ha : 0 ≤ a ∧ a ≤ 255) : mulI a (sA op A B) + mulI b (sB op A B) = doc op a b A B := by
  unfold sA sB doc
  (repeat' split) <;> (try simp only [mul_255 ha, mul_0]) <;> omega
theorem cmp_doc {op a b A B : Int} (ha : 0 ≤ a ∧ a ≤ 255) : cutI (doc op a b A B) = cmp op a b A B := by unfold cmp; rw [doc_cmp ha]
theorem doc_bd {op a b A B : Int} (ha : 0 ≤ a ∧ a ≤ 255) (hb : 0 ≤ b ∧ b ≤ 255) (hA : 0 ≤ A ∧ A ≤ 255) (hB : 0 ≤ B ∧ B ≤ 255) : 0 ≤ doc op a b A B ∧ doc op a b A B ≤ 510 := by
  have h1 := mul_bd ha (sA_bd op hA hB)
  have h2 := mul_bd hb (sB_bd op hA hB)
  rw [← doc_cmp ha]; omega
/-- cutting to alpha, behind or ahead of the cut to a tone -/
theorem cut_mn {n c : Int} (hc : 0 ≤ c ∧ c ≤ 255) : cutI (mn n c) = mn (cutI n) c := by unfold mn cutI; (repeat' split) <;> omega
theorem mx_mn (x y : Int) : x + y - mn x y = mx x y := by unfold mn mx; omega
theorem less_bd {A : Int} (hA : 0 ≤ A ∧ A ≤ 255) : 0 ≤ 255 - A ∧ 255 - A ≤ 255 := by omega
theorem aprt_bd {a b A B : Int} (ha : 0 ≤ a ∧ a ≤ 255) (hb : 0 ≤ b ∧ b ≤ 255) (hA : 0 ≤ A ∧ A ≤ 255) (hB : 0 ≤ B ∧ B ≤ 255) : 0 ≤ aprt a b A B ∧ aprt a b A B ≤ 510 := by
  have h1 := mul_bd ha (less_bd hB)
  have h2 := mul_bd hb (less_bd hA)
  unfold aprt; omega
theorem col_bd (m : Int) {a b A B : Int} (ha : 0 ≤ a ∧ a ≤ 255) (hb : 0 ≤ b ∧ b ≤ 255) (hA : 0 ≤ A ∧ A ≤ 255) (hB : 0 ≤ B ∧ B ≤ 255) : -1000 ≤ col m a b A B ∧ col m a b A B ≤ 1000 := by
  have h1 := aprt_bd ha hb hA hB
  have h2 := mul_bd ha hb
  have h3 := mul_bd ha hB
  have h4 := mul_bd hb hA
  unfold col mn mx
  (repeat' split) <;> omega

/-- products with a tone and with what lacks from it to 255 come to the whole -/
theorem mul_parts {a B : Int} (ha : 0 ≤ a ∧ a ≤ 255) (hB : 0 ≤ B ∧ B ≤ 255) : mulI a B + mulI a (255 - B) = a := by
  have h1 := rnd_near (prod_bd ha hB)
  have h2 := rnd_near (prod_bd ha (less_bd hB))
  have e : a * (255 - B) = 255 * a - a * B := by rw [Int.mul_sub]; omega
  unfold mulI
  rw [e] at h2 ⊢
  generalize a * B = x at *
  omega

/-- what right colours are composed to is no more than what alphas are -/
theorem cmp_right {op a b A B : Int} (ha : 0 ≤ a ∧ a ≤ A) (hb : 0 ≤ b ∧ b ≤ B) (hA : A ≤ 255) (hB : B ≤ 255) : cmp op a b A B ≤ cmp op A B A B := by
  have h1 := sA_bd (A := A) (B := B) op (by omega) (by omega)
  have h2 := sB_bd (A := A) (B := B) op (by omega) (by omega)
  have h3 := mul_mono (c := sA op A B) ha.2 h1.1
  have h4 := mul_mono (c := sB op A B) hb.2 h2.1
  exact cut_mono (by omega)
theorem bl_right {m a b A B : Int} (ha : 0 ≤ a ∧ a ≤ A) (hb : 0 ≤ b ∧ b ≤ B) (hA : A ≤ 255) (hB : B ≤ 255) : bl m a b A B ≤ ba m A B := by
  unfold bl ba
  split
  · exact cmp_right ha hb hA hB
  · unfold mn; omega

/-- nothing on top -/
theorem cmp_none {op b B : Int} (hb : 0 ≤ b ∧ b ≤ 255) (h : op = 0 ∨ op = 3 ∨ op = 4) : cmp op 0 b 0 B = b := by
  have h0 := mul_255 hb
  unfold cmp
  rw [mul_0']
  rcases h with rfl | rfl | rfl
  all_goals
    simp [sB, h0]
    exact cut_id hb
theorem cmp_none' {op b B : Int} (h : op = 1 ∨ op = 2 ∨ op = 5) : cmp op 0 b 0 B = 0 := by
  unfold cmp
  rw [mul_0']
  rcases h with rfl | rfl | rfl
  all_goals
    simp [sB, mul_0]
    decide
/-- onto nothing -/
theorem cmp_onto {op a A : Int} (ha : 0 ≤ a ∧ a ≤ 255) (h : op = 0 ∨ op = 2 ∨ op = 4) : cmp op a 0 A 0 = a := by
  have h0 := mul_255 ha
  unfold cmp
  rw [mul_0']
  rcases h with rfl | rfl | rfl
  all_goals
    simp [sA, h0]
    exact cut_id ha
theorem cmp_clear (a b A B : Int) : cmp 5 a b A B = 0 := by
  unfold cmp sA sB
  simp [mul_0]
  decide
theorem cov_none {m B : Int} (hB : 0 ≤ B ∧ B ≤ 255) : cov m 0 B = B := by
  unfold cov
  rw [mul_0']
  split <;> (have := cut_id hB; simp [this])
theorem cov_onto {m A : Int} (hA : 0 ≤ A ∧ A ≤ 255) : cov m A 0 = A := by
  unfold cov
  rw [mul_0]
  split <;> (have := cut_id hA; simp [this])
theorem col_none {m b B : Int} (hb : 0 ≤ b ∧ b ≤ 255) (hm : 0 < m ∧ m ≤ 6) : col m 0 b 0 B = b := by
  have h0 := mul_255 hb
  unfold col aprt mn mx
  simp only [mul_0', mul_0]
  (repeat' split) <;> simp [h0]
theorem col_onto {m a A : Int} (ha : 0 ≤ a ∧ a ≤ 255) (hm : 0 < m ∧ m ≤ 6) : col m a 0 A 0 = a := by
  have h0 := mul_255 ha
  unfold col aprt mn mx
  simp only [mul_0', mul_0]
  (repeat' split) <;> simp [h0]
theorem bl_none {m b B : Int} (hb : 0 ≤ b ∧ b ≤ B) (hB : B ≤ 255) (hm : 0 ≤ m ∧ m ≤ 6) : bl m 0 b 0 B = b := by
  unfold bl
  split
  · exact cmp_none (by omega) (Or.inl rfl)
  · rw [col_none (by omega) (by omega), cov_none (by omega), cut_id (by omega)]
    unfold mn; omega
theorem bl_onto {m a A : Int} (ha : 0 ≤ a ∧ a ≤ A) (hA : A ≤ 255) (hm : 0 ≤ m ∧ m ≤ 6) : bl m a 0 A 0 = a := by
  unfold bl
  split
  · exact cmp_onto (by omega) (Or.inl rfl)
  · rw [col_onto (by omega) (by omega), cov_onto (by omega), cut_id (by omega)]
    unfold mn; omega
theorem ba_none {m B : Int} (hB : 0 ≤ B ∧ B ≤ 255) : ba m 0 B = B := by
  unfold ba
  split
  · exact cmp_none hB (Or.inl rfl)
  · exact cov_none hB
theorem ba_onto {m A : Int} (hA : 0 ≤ A ∧ A ≤ 255) : ba m A 0 = A := by
  unfold ba
  split
  · exact cmp_onto hA (Or.inl rfl)
  · exact cov_onto hA

/-- which is on top -/
theorem col_turn (m a b A B : Int) : col m b a B A = col m a b A B := by
  have e := mul_comm b a
  unfold col aprt mn mx
  rw [e]
  (repeat' split) <;> omega
theorem cov_turn (m A B : Int) : cov m B A = cov m A B := by
  unfold cov
  rw [mul_comm B A, Int.add_comm B A]
theorem bl_turn {m : Int} (hm : 0 < m) (a b A B : Int) : bl m b a B A = bl m a b A B := by
  unfold bl
  rw [if_neg (by omega), if_neg (by omega), col_turn, cov_turn]
theorem ba_turn {m : Int} (hm : 0 < m) (A B : Int) : ba m B A = ba m A B := by
  unfold ba
  rw [if_neg (by omega), if_neg (by omega), cov_turn]
theorem cmp_turn (a b A B : Int) : cmp 4 b a B A = cmp 4 a b A B := by
  unfold cmp sA sB
  simp
  rw [Int.add_comm]

/-- full alpha -/
theorem bl_full {a b B : Int} (ha : 0 ≤ a ∧ a ≤ 255) : bl 0 a b 255 B = a := by
  have h0 := mul_255 ha
  unfold bl cmp sA sB
  simp [h0, mul_0]
  exact cut_id ha
theorem ba_full {B : Int} : ba 0 255 B = 255 := by
  unfold ba cmp sA sB
  simp [mul_0]
  decide
theorem ba_on {m A : Int} (hA : 0 ≤ A ∧ A ≤ 255) : ba m A 255 = 255 := by
  have h1 := mul_255 hA
  have h2 := mul_255 (less_bd hA)
  rw [mul_comm] at h2
  unfold ba
  split
  · unfold cmp sA sB
    simp [h1, h2]
    rw [show A + (255 - A) = 255 by omega]; decide
  · unfold cov
    rw [h1]
    split
    · unfold cutI; rw [if_neg (by omega)]; split <;> omega
    · rw [show A + 255 - A = 255 by omega]; decide
theorem ba_top {m B : Int} (hB : 0 ≤ B ∧ B ≤ 255) : ba m 255 B = 255 := by
  by_cases h : m = 0
  · subst h; exact ba_full
  · have e : ba m 255 B = ba m B 255 := by unfold ba; rw [if_neg h, if_neg h, cov_turn]
    rw [e]; exact ba_on hB
end Go.Proofs.Ytfgfgfmimejpdaa.Tn
/- What mixing a pixel on top of another and scaling one do: contracts. -/
namespace Go.Proofs.Ytfgfgfmimejpdaa.Tn
open Go.RowKit
set_option linter.unusedVariables false
set_option linter.unusedSimpArgs false

theorem ret_int {k : IntKind} {a b : Int} (h : a = b) : Ending.returned (.int k a) = .returned (.int k b) := by rw [h]

theorem mul_any (a b : Int) (w : World) (ha : 0 ≤ a ∧ a ≤ 255) (hb : 0 ≤ b ∧ b ≤ 255) :
    Calls Try.prog 76 #[.int .u8 a, .int .u8 b] w fun e w' => e = .returned (.int .u8 (mulI a b)) ∧ w' = w := by
  have hp := prod_bd ha hb
  obtain ⟨a0, a1⟩ := ha
  obtain ⟨b0, b1⟩ := hb
  obtain ⟨p0, p1⟩ := hp
  go_enter Try.func76, Try.ntmps76
  go_wp2
  go_ret
  exact ⟨rfl, rfl⟩

theorem refMul_any (a b : Int) (w : World) (ha : 0 ≤ a ∧ a ≤ 255) (hb : 0 ≤ b ∧ b ≤ 255) :
    Calls Try.prog 79 #[.int .u8 a, .int .u8 b] w fun e w' => e = .returned (.int .u8 (mulI a b)) ∧ w' = w := by
  have hp := prod_bd ha hb
  have HR : Hid (rnd (a * b) = if 255 < 2 * (a * b - 255 * (a * b / 255)) then a * b / 255 + 1 else a * b / 255) := rnd_ref hp
  obtain ⟨a0, a1⟩ := ha
  obtain ⟨b0, b1⟩ := hb
  obtain ⟨p0, p1⟩ := hp
  go_enter Try.func79, Try.ntmps79
  go_wp2
  · go_ret
    exact ⟨ret_int (by unfold mulI; rw [HR.out, if_pos (by assumption)]), rfl⟩
  · go_ret
    exact ⟨ret_int (by unfold mulI; rw [HR.out, if_neg (by omega)]), rfl⟩

theorem cut_any (n : Int) (w : World) (h : -9223372036854775808 ≤ n ∧ n ≤ 9223372036854775807) :
    Calls Try.prog 89 #[.int .i64 n] w fun e w' => e = .returned (.int .u8 (cutI n)) ∧ w' = w := by
  obtain ⟨h0, h1⟩ := h
  by_cases c1 : n < 0
  · go_enter Try.func89, Try.ntmps89
    go_wp2
    go_ret
    exact ⟨ret_int (by unfold cutI; rw [if_pos c1]), rfl⟩
  · by_cases c2 : 255 < n
    · go_enter Try.func89, Try.ntmps89
      go_wp2
      go_ret
      exact ⟨ret_int (by unfold cutI; rw [if_neg (by omega), if_pos (by omega)]), rfl⟩
    · go_enter Try.func89, Try.ntmps89
      go_wp2
      go_ret
      exact ⟨ret_int (by unfold cutI; rw [if_neg (by omega), if_neg (by omega)]), rfl⟩

theorem refCut_any (n : Int) (w : World) (h : -9223372036854775808 ≤ n ∧ n ≤ 9223372036854775807) :
    Calls Try.prog 93 #[.int .i64 n] w fun e w' => e = .returned (.int .u8 (cutI n)) ∧ w' = w := by
  obtain ⟨h0, h1⟩ := h
  by_cases c1 : n < 0
  · go_enter Try.func93, Try.ntmps93
    go_wp2
    go_ret
    exact ⟨ret_int (by unfold cutI; rw [if_pos c1]), rfl⟩
  · by_cases c2 : 255 < n
    · go_enter Try.func93, Try.ntmps93
      go_wp2
      go_ret
      exact ⟨ret_int (by unfold cutI; rw [if_neg (by omega), if_pos (by omega)]), rfl⟩
    · go_enter Try.func93, Try.ntmps93
      go_wp2
      go_ret
      exact ⟨ret_int (by unfold cutI; rw [if_neg (by omega), if_neg (by omega)]), rfl⟩

theorem quo_hi {c a : Int} (hc : c ≤ 255) (ha : 0 < a) : (510 * c + a) / (2 * a) ≤ 65536 := by
  have := Int.ediv_lt_of_lt_mul (a := 510 * c + a) (b := 65537) (c := 2 * a) (by omega) (by omega); omega


theorem scale_any (r g b a : Int) (w : World) (hr : 0 ≤ r ∧ r ≤ 255) (hg : 0 ≤ g ∧ g ≤ 255) (hb : 0 ≤ b ∧ b ≤ 255) (ha : 0 ≤ a ∧ a ≤ 255) (k : Int) (hk : 0 ≤ k ∧ k ≤ 255) :
    Calls Try.prog 56 #[.agg #[.int .u8 r, .int .u8 g, .int .u8 b, .int .u8 a], .int .u8 k] w fun e w' => e = .returned (.agg #[.int .u8 (mulI r k), .int .u8 (mulI g k), .int .u8 (mulI b k), .int .u8 (mulI a k)]) ∧ ∃ (c1 c2 : Array Value) (n : Nat), w' = ((w.alloc (.cells c1 28)).alloc (.cells c2 28)).drewN n := by
  go_enter Try.func56, Try.ntmps56
  go_wp2
  refine wp_loop_rounds 5 ?_
  rw [rounds_succ]
  go_wp2_with (go_at_call 76; refine (mul_any _ _ _ ‹_› ‹_›).mono ?_; rintro e w' ⟨rfl, rfl⟩)
  rw [rounds_succ]
  go_wp2_with (go_at_call 76; refine (mul_any _ _ _ ‹_› ‹_›).mono ?_; rintro e w' ⟨rfl, rfl⟩)
  rw [rounds_succ]
  go_wp2_with (go_at_call 76; refine (mul_any _ _ _ ‹_› ‹_›).mono ?_; rintro e w' ⟨rfl, rfl⟩)
  rw [rounds_succ]
  go_wp2_with (go_at_call 76; refine (mul_any _ _ _ ‹_› ‹_›).mono ?_; rintro e w' ⟨rfl, rfl⟩)
  rw [rounds_succ]
  go_wp2
  simp [bodyPost, results, Try.results56, go_sem]
  exact ⟨_, _, 0, rfl⟩

theorem refScale_any (r g b a : Int) (w : World) (hr : 0 ≤ r ∧ r ≤ 255) (hg : 0 ≤ g ∧ g ≤ 255) (hb : 0 ≤ b ∧ b ≤ 255) (ha : 0 ≤ a ∧ a ≤ 255) (k : Int) (hk : 0 ≤ k ∧ k ≤ 255) :
    Calls Try.prog 59 #[.agg #[.int .u8 r, .int .u8 g, .int .u8 b, .int .u8 a], .int .u8 k] w fun e w' => e = .returned (.agg #[.int .u8 (mulI r k), .int .u8 (mulI g k), .int .u8 (mulI b k), .int .u8 (mulI a k)]) ∧ ∃ (c1 c2 : Array Value) (n : Nat), w' = ((w.alloc (.cells c1 28)).alloc (.cells c2 28)).drewN n := by
  go_enter Try.func59, Try.ntmps59
  go_wp2
  go_region_held3 (fun w' => w'.cell? ⟨w.heap.size, 0, none⟩ = some (.int .u8 r) ∧ w'.cell? ⟨w.heap.size, 1, none⟩ = some (.int .u8 g) ∧ w'.cell? ⟨w.heap.size, 2, none⟩ = some (.int .u8 b) ∧ w'.cell? ⟨w.heap.size, 3, none⟩ = some (.int .u8 a)) (simp [go_sem, World.cell?_alloc_past]) ((go_at_call 79; refine (refMul_any _ _ _ ‹_› ‹_›).mono ?_; rintro e w' ⟨rfl, rfl⟩))
  go_wp2
  simp [bodyPost, results, Try.results59, go_sem]
  exact ⟨_, _, 1, rfl⟩


theorem mulN_any (a b : Int) (w : World) (ha : 0 ≤ a ∧ a ≤ 255) (hb : 0 ≤ b ∧ b ≤ 255) :
    Calls Try.prog 90 #[.int .u8 a, .int .u8 b] w fun e w' => e = .returned (.int .i64 (mulI a b)) ∧ w' = w := by
  have hm := mul_bd ha hb
  go_enter Try.func90, Try.ntmps90
  go_wp2_with (go_at_call 76; refine (mul_any _ _ _ ‹_› ‹_›).mono ?_; rintro e w' ⟨rfl, rfl⟩)
  go_ret
  exact ⟨rfl, rfl⟩
theorem by_any (a b : Int) (w : World) (ha : 0 ≤ a ∧ a ≤ 255) (hb : 0 ≤ b ∧ b ≤ 255) :
    Calls Try.prog 92 #[.int .u8 a, .int .u8 b] w fun e w' => e = .returned (.int .i64 (mulI a b)) ∧ w' = w := by
  have hm := mul_bd ha hb
  go_enter Try.func92, Try.ntmps92
  go_wp2_with (go_at_call 79; refine (refMul_any _ _ _ ‹_› ‹_›).mono ?_; rintro e w' ⟨rfl, rfl⟩)
  go_ret
  exact ⟨rfl, rfl⟩
theorem six {op : Int} (h : 0 ≤ op ∧ op ≤ 5) : op = 0 ∨ op = 1 ∨ op = 2 ∨ op = 3 ∨ op = 4 ∨ op = 5 := by omega
theorem seven {m : Int} (h : 0 ≤ m ∧ m ≤ 6) : m = 0 ∨ m = 1 ∨ m = 2 ∨ m = 3 ∨ m = 4 ∨ m = 5 ∨ m = 6 := by omega
theorem six' {m : Int} (h : 1 ≤ m ∧ m ≤ 6) : m = 1 ∨ m = 2 ∨ m = 3 ∨ m = 4 ∨ m = 5 ∨ m = 6 := by omega

theorem shares_any (op A B : Int) (w : World) (ho : 0 ≤ op ∧ op ≤ 5) (hA : 0 ≤ A ∧ A ≤ 255) (hB : 0 ≤ B ∧ B ≤ 255) :
    Calls Try.prog 88 #[.int .i64 op, .int .u8 A, .int .u8 B] w fun e w' => e = .returned (.tuple #[.int .u8 (sA op A B), .int .u8 (sB op A B)]) ∧ w' = w := by
  obtain ⟨A0, A1⟩ := hA
  obtain ⟨B0, B1⟩ := hB
  rcases six ho with rfl | rfl | rfl | rfl | rfl | rfl
  all_goals
    clear ho
    go_enter Try.func88, Try.ntmps88
    go_wp2
    simp [bodyPost, results, Try.results88, go_sem, sA, sB]

attribute [local go_sem ↓] Go.wp_at_zero Go.wp_at_succ

set_option maxHeartbeats 2000000 in
theorem comp_any (op r g b a p q s c : Int) (w : World) (ho : 0 ≤ op ∧ op ≤ 5) (hr : 0 ≤ r ∧ r ≤ 255) (hg : 0 ≤ g ∧ g ≤ 255) (hb : 0 ≤ b ∧ b ≤ 255) (ha : 0 ≤ a ∧ a ≤ 255) (hp : 0 ≤ p ∧ p ≤ 255) (hq : 0 ≤ q ∧ q ≤ 255) (hs : 0 ≤ s ∧ s ≤ 255) (hc : 0 ≤ c ∧ c ≤ 255) :
    Calls Try.prog 77 #[.int .i64 op, .agg #[.int .u8 r, .int .u8 g, .int .u8 b, .int .u8 a], .agg #[.int .u8 p, .int .u8 q, .int .u8 s, .int .u8 c]] w fun e w' => e = .returned (.agg #[.int .u8 (cmp op r p a c), .int .u8 (cmp op g q a c), .int .u8 (cmp op b s a c), .int .u8 (cmp op a c a c)]) ∧ Below w.heap.size w w' := by
  have sa := sA_bd op ha hc
  have sb := sB_bd op ha hc
  have x0 := mul_bd hr sa
  have y0 := mul_bd hp sb
  have e0 : IntKind.i64.wrap (mulI r (sA op a c) + mulI p (sB op a c)) = mulI r (sA op a c) + mulI p (sB op a c) := by rw [IntKind.wrap_i64]; omega
  have x1 := mul_bd hg sa
  have y1 := mul_bd hq sb
  have e1 : IntKind.i64.wrap (mulI g (sA op a c) + mulI q (sB op a c)) = mulI g (sA op a c) + mulI q (sB op a c) := by rw [IntKind.wrap_i64]; omega
  have x2 := mul_bd hb sa
  have y2 := mul_bd hs sb
  have e2 : IntKind.i64.wrap (mulI b (sA op a c) + mulI s (sB op a c)) = mulI b (sA op a c) + mulI s (sB op a c) := by rw [IntKind.wrap_i64]; omega
  have x3 := mul_bd ha sa
  have y3 := mul_bd hc sb
  have e3 : IntKind.i64.wrap (mulI a (sA op a c) + mulI c (sB op a c)) = mulI a (sA op a c) + mulI c (sB op a c) := by rw [IntKind.wrap_i64]; omega
  go_enter Try.func77, Try.ntmps77
  go_wp2_with (go_at_call 88; refine (shares_any _ _ _ _ ‹_› ‹_› ‹_›).mono ?_; rintro e w' ⟨rfl, rfl⟩)
  refine wp_loop_rounds 5 ?_
  rw [rounds_succ]
  go_wp2
  go_region_held3 (fun w' => (w'.cell? ⟨w.heap.size, 0, none⟩ = some (.int .u8 r) ∧ w'.cell? ⟨w.heap.size, 1, none⟩ = some (.int .u8 g) ∧ w'.cell? ⟨w.heap.size, 2, none⟩ = some (.int .u8 b) ∧ w'.cell? ⟨w.heap.size, 3, none⟩ = some (.int .u8 a)) ∧ (w'.cell? ⟨w.heap.size + 1, 0, none⟩ = some (.int .u8 p) ∧ w'.cell? ⟨w.heap.size + 1, 1, none⟩ = some (.int .u8 q) ∧ w'.cell? ⟨w.heap.size + 1, 2, none⟩ = some (.int .u8 s) ∧ w'.cell? ⟨w.heap.size + 1, 3, none⟩ = some (.int .u8 c))) (simp [go_sem, World.cell?_alloc_past, World.cell?_setCell_far]) ((first | (go_at_call 90; refine (mulN_any _ _ _ ‹_› ‹_›).mono ?_; rintro e w' ⟨rfl, rfl⟩) | (go_at_call 89; refine (cut_any _ _ ⟨by omega, by omega⟩).mono ?_; rintro e w' ⟨rfl, rfl⟩)))
  go_wp2
  rw [rounds_succ]
  go_wp2
  go_region_held3 (fun w' => (w'.cell? ⟨w.heap.size, 0, none⟩ = some (.int .u8 r) ∧ w'.cell? ⟨w.heap.size, 1, none⟩ = some (.int .u8 g) ∧ w'.cell? ⟨w.heap.size, 2, none⟩ = some (.int .u8 b) ∧ w'.cell? ⟨w.heap.size, 3, none⟩ = some (.int .u8 a)) ∧ (w'.cell? ⟨w.heap.size + 1, 0, none⟩ = some (.int .u8 p) ∧ w'.cell? ⟨w.heap.size + 1, 1, none⟩ = some (.int .u8 q) ∧ w'.cell? ⟨w.heap.size + 1, 2, none⟩ = some (.int .u8 s) ∧ w'.cell? ⟨w.heap.size + 1, 3, none⟩ = some (.int .u8 c))) (simp [go_sem, World.cell?_alloc_past, World.cell?_setCell_far]) ((first | (go_at_call 90; refine (mulN_any _ _ _ ‹_› ‹_›).mono ?_; rintro e w' ⟨rfl, rfl⟩) | (go_at_call 89; refine (cut_any _ _ ⟨by omega, by omega⟩).mono ?_; rintro e w' ⟨rfl, rfl⟩)))
  go_wp2
  rw [rounds_succ]
  go_wp2
  go_region_held3 (fun w' => (w'.cell? ⟨w.heap.size, 0, none⟩ = some (.int .u8 r) ∧ w'.cell? ⟨w.heap.size, 1, none⟩ = some (.int .u8 g) ∧ w'.cell? ⟨w.heap.size, 2, none⟩ = some (.int .u8 b) ∧ w'.cell? ⟨w.heap.size, 3, none⟩ = some (.int .u8 a)) ∧ (w'.cell? ⟨w.heap.size + 1, 0, none⟩ = some (.int .u8 p) ∧ w'.cell? ⟨w.heap.size + 1, 1, none⟩ = some (.int .u8 q) ∧ w'.cell? ⟨w.heap.size + 1, 2, none⟩ = some (.int .u8 s) ∧ w'.cell? ⟨w.heap.size + 1, 3, none⟩ = some (.int .u8 c))) (simp [go_sem, World.cell?_alloc_past, World.cell?_setCell_far]) ((first | (go_at_call 90; refine (mulN_any _ _ _ ‹_› ‹_›).mono ?_; rintro e w' ⟨rfl, rfl⟩) | (go_at_call 89; refine (cut_any _ _ ⟨by omega, by omega⟩).mono ?_; rintro e w' ⟨rfl, rfl⟩)))
  go_wp2
  rw [rounds_succ]
  go_wp2
  go_region_held3 (fun w' => (w'.cell? ⟨w.heap.size, 0, none⟩ = some (.int .u8 r) ∧ w'.cell? ⟨w.heap.size, 1, none⟩ = some (.int .u8 g) ∧ w'.cell? ⟨w.heap.size, 2, none⟩ = some (.int .u8 b) ∧ w'.cell? ⟨w.heap.size, 3, none⟩ = some (.int .u8 a)) ∧ (w'.cell? ⟨w.heap.size + 1, 0, none⟩ = some (.int .u8 p) ∧ w'.cell? ⟨w.heap.size + 1, 1, none⟩ = some (.int .u8 q) ∧ w'.cell? ⟨w.heap.size + 1, 2, none⟩ = some (.int .u8 s) ∧ w'.cell? ⟨w.heap.size + 1, 3, none⟩ = some (.int .u8 c))) (simp [go_sem, World.cell?_alloc_past, World.cell?_setCell_far]) ((first | (go_at_call 90; refine (mulN_any _ _ _ ‹_› ‹_›).mono ?_; rintro e w' ⟨rfl, rfl⟩) | (go_at_call 89; refine (cut_any _ _ ⟨by omega, by omega⟩).mono ?_; rintro e w' ⟨rfl, rfl⟩)))
  go_wp2
  rw [rounds_succ]
  go_wp2
  simp [bodyPost, results, Try.results77, go_sem, cmp]
  go_grown

theorem below_drewN {B : Nat} {a w : World} (h : Below B a w) (n : Nat) : Below B a (w.drewN n) := ⟨h.os, h.tape, h.output, h.size, h.block⟩
/-- a callee that draws nothing, met where draws were made ahead -/
theorem quiet_more {P : Program} {f : FuncId} {args : Array Value} {w : World} {k n : Nat} {v : Value}
    (h : Calls P f args (w.drewN (k + n)) fun e w' => e = .returned v ∧ w' = w.drewN (k + n)) : Calls P f args (w.drewN (k + n)) fun e w'' => e = .returned v ∧ ∃ m, w'' = w.drewN (k + m) :=
  h.mono fun _ _ ⟨he, hm⟩ => ⟨he, n, hm⟩

set_option maxHeartbeats 4000000 in
theorem refComp_any (op r g b a p q s c : Int) (w : World) (ho : op = 0) (hr : 0 ≤ r ∧ r ≤ 255) (hg : 0 ≤ g ∧ g ≤ 255) (hb : 0 ≤ b ∧ b ≤ 255) (ha : 0 ≤ a ∧ a ≤ 255) (hp : 0 ≤ p ∧ p ≤ 255) (hq : 0 ≤ q ∧ q ≤ 255) (hs : 0 ≤ s ∧ s ≤ 255) (hc : 0 ≤ c ∧ c ≤ 255) :
    Calls Try.prog 80 #[.int .i64 op, .agg #[.int .u8 r, .int .u8 g, .int .u8 b, .int .u8 a], .agg #[.int .u8 p, .int .u8 q, .int .u8 s, .int .u8 c]] w fun e w' => e = .returned (.agg #[.int .u8 (cmp op r p a c), .int .u8 (cmp op g q a c), .int .u8 (cmp op b s a c), .int .u8 (cmp op a c a c)]) ∧ Below w.heap.size w w' := by
  have la := less_bd ha
  have lc := less_bd hc
  have wa : IntKind.u8.wrap (255 - a) = 255 - a := by rw [IntKind.wrap_u8]; omega
  have wc : IntKind.u8.wrap (255 - c) = 255 - c := by rw [IntKind.wrap_u8]; omega
  have x0 := mul_bd hr hc
  have y0 := mul_bd hr lc
  have z0 := mul_bd hp la
  have e0 := cmp_doc (op := op) (b := p) (A := a) (B := c) hr
  have x1 := mul_bd hg hc
  have y1 := mul_bd hg lc
  have z1 := mul_bd hq la
  have e1 := cmp_doc (op := op) (b := q) (A := a) (B := c) hg
  have x2 := mul_bd hb hc
  have y2 := mul_bd hb lc
  have z2 := mul_bd hs la
  have e2 := cmp_doc (op := op) (b := s) (A := a) (B := c) hb
  have x3 := mul_bd ha hc
  have y3 := mul_bd ha lc
  have z3 := mul_bd hc la
  have e3 := cmp_doc (op := op) (b := c) (A := a) (B := c) ha
  rw [← e0, ← e1, ← e2, ← e3]
  clear e0 e1 e2 e3
  obtain ⟨x00, x01⟩ := id x0
  obtain ⟨y00, y01⟩ := id y0
  obtain ⟨z00, z01⟩ := id z0
  obtain ⟨x10, x11⟩ := id x1
  obtain ⟨y10, y11⟩ := id y1
  obtain ⟨z10, z11⟩ := id z1
  obtain ⟨x20, x21⟩ := id x2
  obtain ⟨y20, y21⟩ := id y2
  obtain ⟨z20, z21⟩ := id z2
  obtain ⟨x30, x31⟩ := id x3
  obtain ⟨y30, y31⟩ := id y3
  obtain ⟨z30, z31⟩ := id z3
  obtain ⟨hr0, hr1⟩ := id hr
  obtain ⟨hg0, hg1⟩ := id hg
  obtain ⟨hb0, hb1⟩ := id hb
  obtain ⟨ha0, ha1⟩ := id ha
  subst ho
  all_goals
    go_enter Try.func80, Try.ntmps80
    go_wp2
    refine wp_loop_rounds 5 ?_
    rw [rounds_succ]
    go_wp2
    go_quiet (first | (go_at_call 92; refine Calls.quiet_of_same (by_any _ _ _ ‹_› ‹_›)) | (go_at_call 92; refine quiet_more (by_any _ _ _ ‹_› ‹_›)))
    go_wp2
    go_quiet (first | (go_at_call 92; refine Calls.quiet_of_same (by_any _ _ _ ‹_› ‹_›)) | (go_at_call 92; refine quiet_more (by_any _ _ _ ‹_› ‹_›)))
    go_wp2
    go_quiet (first | (go_at_call 92; refine Calls.quiet_of_same (by_any _ _ _ ‹_› ‹_›)) | (go_at_call 92; refine quiet_more (by_any _ _ _ ‹_› ‹_›)))
    go_wp2_with (go_at_call 93; refine (refCut_any _ _ ⟨by omega, by omega⟩).mono ?_; rintro e w' ⟨rfl, rfl⟩)
    rw [rounds_succ]
    go_wp2
    go_quiet (first | (go_at_call 92; refine Calls.quiet_of_same (by_any _ _ _ ‹_› ‹_›)) | (go_at_call 92; refine quiet_more (by_any _ _ _ ‹_› ‹_›)))
    go_wp2
    go_quiet (first | (go_at_call 92; refine Calls.quiet_of_same (by_any _ _ _ ‹_› ‹_›)) | (go_at_call 92; refine quiet_more (by_any _ _ _ ‹_› ‹_›)))
    go_wp2
    go_quiet (first | (go_at_call 92; refine Calls.quiet_of_same (by_any _ _ _ ‹_› ‹_›)) | (go_at_call 92; refine quiet_more (by_any _ _ _ ‹_› ‹_›)))
    go_wp2_with (go_at_call 93; refine (refCut_any _ _ ⟨by omega, by omega⟩).mono ?_; rintro e w' ⟨rfl, rfl⟩)
    rw [rounds_succ]
    go_wp2
    go_quiet (first | (go_at_call 92; refine Calls.quiet_of_same (by_any _ _ _ ‹_› ‹_›)) | (go_at_call 92; refine quiet_more (by_any _ _ _ ‹_› ‹_›)))
    go_wp2
    go_quiet (first | (go_at_call 92; refine Calls.quiet_of_same (by_any _ _ _ ‹_› ‹_›)) | (go_at_call 92; refine quiet_more (by_any _ _ _ ‹_› ‹_›)))
    go_wp2
    go_quiet (first | (go_at_call 92; refine Calls.quiet_of_same (by_any _ _ _ ‹_› ‹_›)) | (go_at_call 92; refine quiet_more (by_any _ _ _ ‹_› ‹_›)))
    go_wp2_with (go_at_call 93; refine (refCut_any _ _ ⟨by omega, by omega⟩).mono ?_; rintro e w' ⟨rfl, rfl⟩)
    rw [rounds_succ]
    go_wp2
    go_quiet (first | (go_at_call 92; refine Calls.quiet_of_same (by_any _ _ _ ‹_› ‹_›)) | (go_at_call 92; refine quiet_more (by_any _ _ _ ‹_› ‹_›)))
    go_wp2
    go_quiet (first | (go_at_call 92; refine Calls.quiet_of_same (by_any _ _ _ ‹_› ‹_›)) | (go_at_call 92; refine quiet_more (by_any _ _ _ ‹_› ‹_›)))
    go_wp2
    go_quiet (first | (go_at_call 92; refine Calls.quiet_of_same (by_any _ _ _ ‹_› ‹_›)) | (go_at_call 92; refine quiet_more (by_any _ _ _ ‹_› ‹_›)))
    go_wp2_with (go_at_call 93; refine (refCut_any _ _ ⟨by omega, by omega⟩).mono ?_; rintro e w' ⟨rfl, rfl⟩)
    rw [rounds_succ]
    go_wp2
    simp [bodyPost, results, Try.results80, go_sem, doc]
    repeat (go_grown; with_reducible refine below_drewN ?_ _)
    go_grown
end Go.Proofs.Ytfgfgfmimejpdaa.Tn
namespace Go.Proofs.Ytfgfgfmimejpdaa
open Num Go.RowKit
set_option linter.unusedVariables false
/-- a pixel on top of another; a pixel scaled -/
def overX (a b : X) : X := ⟨Tn.cmp 0 a.c0 b.c0 a.c3 b.c3, Tn.cmp 0 a.c1 b.c1 a.c3 b.c3, Tn.cmp 0 a.c2 b.c2 a.c3 b.c3, Tn.cmp 0 a.c3 b.c3 a.c3 b.c3⟩
def scaleX (p : X) (k : Int) : X := ⟨Tn.mulI p.c0 k, Tn.mulI p.c1 k, Tn.mulI p.c2 k, Tn.mulI p.c3 k⟩
theorem over_byte (a b : X) : byteX (overX a b) := ⟨Tn.cmp_bd _ _ _ _ _, Tn.cmp_bd _ _ _ _ _, Tn.cmp_bd _ _ _ _ _, Tn.cmp_bd _ _ _ _ _⟩
theorem scale_byte {p : X} {k : Int} (hp : byteX p) (hk : 0 ≤ k ∧ k ≤ 255) : byteX (scaleX p k) := ⟨Tn.mul_bd hp.1 hk, Tn.mul_bd hp.2.1 hk, Tn.mul_bd hp.2.2.1 hk, Tn.mul_bd hp.2.2.2 hk⟩
theorem over_none {b : X} (hb : byteX b) : overX noX b = b := X_ext (Tn.cmp_none hb.1 (.inl rfl)) (Tn.cmp_none hb.2.1 (.inl rfl)) (Tn.cmp_none hb.2.2.1 (.inl rfl)) (Tn.cmp_none hb.2.2.2 (.inl rfl))
theorem over_onto {a : X} (ha : byteX a) : overX a noX = a := X_ext (Tn.cmp_onto ha.1 (.inl rfl)) (Tn.cmp_onto ha.2.1 (.inl rfl)) (Tn.cmp_onto ha.2.2.1 (.inl rfl)) (Tn.cmp_onto ha.2.2.2 (.inl rfl))
theorem over_right {a b : X} (ha : byteX a) (hb : byteX b) (ra : rightX a) (rb : rightX b) : rightX (overX a b) := ⟨Tn.cmp_right ⟨ha.1.1, ra.1⟩ ⟨hb.1.1, rb.1⟩ ha.2.2.2.2 hb.2.2.2.2, Tn.cmp_right ⟨ha.2.1.1, ra.2.1⟩ ⟨hb.2.1.1, rb.2.1⟩ ha.2.2.2.2 hb.2.2.2.2, Tn.cmp_right ⟨ha.2.2.1.1, ra.2.2⟩ ⟨hb.2.2.1.1, rb.2.2⟩ ha.2.2.2.2 hb.2.2.2.2⟩
theorem scale_right {p : X} {k : Int} (hk : 0 ≤ k) (rp : rightX p) : rightX (scaleX p k) := ⟨Tn.mul_mono rp.1 hk, Tn.mul_mono rp.2.1 hk, Tn.mul_mono rp.2.2 hk⟩
theorem scale_no (k : Int) : scaleX noX k = noX := X_ext (Tn.mul_0' _) (Tn.mul_0' _) (Tn.mul_0' _) (Tn.mul_0' _)
theorem over_any (a b : X) (w : World) (ha : byteX a) (hb : byteX b) : Calls Try.prog 77 #[.int .i64 0, pxV a, pxV b] w fun e w' => e = .returned (pxV (overX a b)) ∧ Below w.heap.size w w' :=
  Tn.comp_any 0 a.c0 a.c1 a.c2 a.c3 b.c0 b.c1 b.c2 b.c3 w (by decide) ha.1 ha.2.1 ha.2.2.1 ha.2.2.2 hb.1 hb.2.1 hb.2.2.1 hb.2.2.2
theorem refOver_any (a b : X) (w : World) (ha : byteX a) (hb : byteX b) : Calls Try.prog 80 #[.int .i64 0, pxV a, pxV b] w fun e w' => e = .returned (pxV (overX a b)) ∧ Below w.heap.size w w' :=
  Tn.refComp_any 0 a.c0 a.c1 a.c2 a.c3 b.c0 b.c1 b.c2 b.c3 w rfl ha.1 ha.2.1 ha.2.2.1 ha.2.2.2 hb.1 hb.2.1 hb.2.2.1 hb.2.2.2
theorem two_blocks {w : World} {w' : World} {t : TypeId} (h : ∃ (c1 c2 : Array Value) (n : Nat), w' = ((w.alloc (.cells c1 t)).alloc (.cells c2 t)).drewN n) : Below w.heap.size w w' := by
  obtain ⟨c1, c2, n, rfl⟩ := h
  exact below_drewN (((Below.refl _ _).alloc (Nat.le_refl _) _).alloc (by simp) _) n
theorem scale_any (p : X) (k : Int) (w : World) (hp : byteX p) (hk : 0 ≤ k ∧ k ≤ 255) : Calls Try.prog 56 #[pxV p, .int .u8 k] w fun e w' => e = .returned (pxV (scaleX p k)) ∧ Below w.heap.size w w' :=
  (Tn.scale_any p.c0 p.c1 p.c2 p.c3 w hp.1 hp.2.1 hp.2.2.1 hp.2.2.2 k hk).mono fun _ _ ⟨he, hw⟩ => ⟨he, two_blocks hw⟩
theorem refScale_any (p : X) (k : Int) (w : World) (hp : byteX p) (hk : 0 ≤ k ∧ k ≤ 255) : Calls Try.prog 59 #[pxV p, .int .u8 k] w fun e w' => e = .returned (pxV (scaleX p k)) ∧ Below w.heap.size w w' :=
  (Tn.refScale_any p.c0 p.c1 p.c2 p.c3 w hp.1 hp.2.1 hp.2.2.1 hp.2.2.2 k hk).mono fun _ _ ⟨he, hw⟩ => ⟨he, two_blocks hw⟩
end Go.Proofs.Ytfgfgfmimejpdaa
/- One buffer laid on top of another: the contract of the code. -/
namespace Go.Proofs.Ytfgfgfmimejpdaa
open Num Go.RowKit
set_option linter.unusedVariables false
set_option linter.unusedSimpArgs false

theorem over4 (a0 a1 a2 a3 b0 b1 b2 b3 : Int) (w : World) (ha : byteX ⟨a0, a1, a2, a3⟩) (hb : byteX ⟨b0, b1, b2, b3⟩) : Calls Try.prog 77 #[.int .i64 0, .agg #[.int .u8 a0, .int .u8 a1, .int .u8 a2, .int .u8 a3], .agg #[.int .u8 b0, .int .u8 b1, .int .u8 b2, .int .u8 b3]] w fun e w' => e = .returned (pxV (overX ⟨a0, a1, a2, a3⟩ ⟨b0, b1, b2, b3⟩)) ∧ Below w.heap.size w w' := over_any ⟨a0, a1, a2, a3⟩ ⟨b0, b1, b2, b3⟩ w ha hb
theorem hasB_iff' {r : R} {x y : Int} : hasB r x y = true ↔ (r.x0 ≤ x ∧ x < r.x1) ∧ (r.y0 ≤ y ∧ y < r.y1) := by
  unfold hasB
  rw [decide_eq_true_eq]
  omega
/-- rows ahead of y are laid, and in the row y what is ahead of x -/
def layO (A : R) (u F : Int → Int → X) (y : Int) (x' y' : Int) : X := if hasB A x' y' = true ∧ y' < y then overX (u x' y') (F x' y') else F x' y'
def layG (A : R) (u F : Int → Int → X) (x y : Int) (x' y' : Int) : X := if hasB A x' y' = true ∧ (y' < y ∨ (y' = y ∧ x' < x)) then overX (u x' y') (F x' y') else F x' y'
theorem lay_start (A : R) (u F : Int → Int → X) : layO A u F A.y0 = F := by
  funext x' y'
  unfold layO
  rw [if_neg (fun h => by have := hasB_iff'.1 h.1; omega)]
theorem lay_row0 (A : R) (u F : Int → Int → X) (y : Int) : layG A u F A.x0 y = layO A u F y := by
  funext x' y'
  unfold layO layG
  by_cases e : hasB A x' y' = true ∧ y' < y
  · rw [if_pos e, if_pos ⟨e.1, .inl e.2⟩]
  · rw [if_neg e, if_neg]
    rintro ⟨h1, h2 | h2⟩
    · exact e ⟨h1, h2⟩
    · have := hasB_iff'.1 h1; omega
theorem lay_row1 (A : R) (u F : Int → Int → X) (y : Int) : layG A u F A.x1 y = layO A u F (y + 1) := by
  funext x' y'
  unfold layO layG
  by_cases e : hasB A x' y' = true ∧ y' < y + 1
  · rw [if_pos e, if_pos ⟨e.1, by have := hasB_iff'.1 e.1; omega⟩]
  · rw [if_neg e, if_neg]
    rintro ⟨h1, h2⟩
    exact e ⟨h1, by omega⟩
theorem lay_at (A : R) (u F : Int → Int → X) (x y : Int) : layG A u F x y x y = F x y := by
  unfold layG
  rw [if_neg (by rintro ⟨-, h | h⟩ <;> omega)]
theorem lay_step {A : R} {u F : Int → Int → X} {x y : Int} (h : hasB A x y = true) : putG (layG A u F x y) y x (x + 1) (fun _ => overX (u x y) (F x y)) = layG A u F (x + 1) y := by
  funext x' y'
  unfold putG
  by_cases e : y' = y ∧ x ≤ x' ∧ x' < x + 1
  · rw [if_pos e]
    obtain ⟨rfl, e2, e3⟩ := e
    obtain rfl : x' = x := by omega
    unfold layG
    rw [if_pos ⟨h, .inr ⟨rfl, by omega⟩⟩]
  · rw [if_neg e]
    unfold layG
    by_cases d : hasB A x' y' = true ∧ (y' < y ∨ (y' = y ∧ x' < x))
    · rw [if_pos d, if_pos ⟨d.1, by omega⟩]
    · rw [if_neg d, if_neg]
      rintro ⟨h1, h2⟩
      exact d ⟨h1, by omega⟩
theorem lay_end {M B : R} {h F : Int → Int → X} (hF : ∀ x y, byteX (F x y)) : img M (layO (meet M B) (atX B h) F (meet M B).y1) = img M (fun x y => overX (atX B h x y) (F x y)) := by
  apply img_ext
  intro x y hb
  unfold layO
  by_cases c : hasB (meet M B) x y = true
  · rw [if_pos ⟨c, by have := hasB_iff'.1 c; omega⟩]
  · rw [if_neg (fun hh => c hh.1)]
    have h2 : ¬ hasB B x y = true := by
      intro h3
      rw [has_meet, hb, h3] at c
      exact c rfl
    unfold atX
    rw [if_neg h2, over_none (hF x y)]
theorem meet_in2 {B r : R} (he : empB (meet B r) = false) : r.x0 ≤ (meet B r).x0 ∧ (meet B r).x1 ≤ r.x1 ∧ r.y0 ≤ (meet B r).y0 ∧ (meet B r).y1 ≤ r.y1 := by
  unfold meet at he ⊢
  rcases e2 : empB ⟨mx B.x0 r.x0, mx B.y0 r.y0, mn B.x1 r.x1, mn B.y1 r.y1⟩ with _ | _
  · rw [orN_no e2]
    dsimp only
    unfold mx mn
    omega
  · rw [orN_yes e2] at he
    cases he
theorem ox_pix {lo : Nat} {w : World} {ao : Option Addr} {n m g off : Nat} {M : R} {F : Int → Int → X} (h : Ox lo w ao n m g off (img M F)) {q i : Nat} {x y : Int} (hq : posN M x y = q + i) (hi : In M x (x + 1) y) (p : X) :
    Ox lo ((((w.setCell ⟨g, off + q * 4 + i * 4, none⟩ (.int .u8 p.c0)).setCell ⟨g, off + q * 4 + i * 4 + 1, none⟩ (.int .u8 p.c1)).setCell ⟨g, off + q * 4 + i * 4 + 2, none⟩ (.int .u8 p.c2)).setCell ⟨g, off + q * 4 + i * 4 + 3, none⟩ (.int .u8 p.c3)) ao n m g off (img M (putG F y x (x + 1) (fun _ => p))) ∧ But g w ((((w.setCell ⟨g, off + q * 4 + i * 4, none⟩ (.int .u8 p.c0)).setCell ⟨g, off + q * 4 + i * 4 + 1, none⟩ (.int .u8 p.c1)).setCell ⟨g, off + q * 4 + i * 4 + 2, none⟩ (.int .u8 p.c2)).setCell ⟨g, off + q * 4 + i * 4 + 3, none⟩ (.int .u8 p.c3)) := by
  have h1 := ox_img_put h hi (fun _ => p)
  have h2 := but_cells g (off + q * 4 + i * 4) (flat [p]) w
  rw [line_one, hq, show off + (q + i) * 4 = off + q * 4 + i * 4 by omega] at h1
  exact ⟨h1, h2⟩
/-- a pixel's four cells, that may be written -/
theorem ox_cells {lo : Nat} {w : World} {ao : Option Addr} {n m g off : Nat} {l : List X} (h : Ox lo w ao n m g off l) {q i : Nat} {p : X} (hp : l[q + i]? = some p) :
    (w.cell? ⟨g, off + q * 4 + i * 4, none⟩ = some (.int .u8 p.c0) ∧ w.cell? ⟨g, off + q * 4 + i * 4 + 1, none⟩ = some (.int .u8 p.c1) ∧ w.cell? ⟨g, off + q * 4 + i * 4 + 2, none⟩ = some (.int .u8 p.c2) ∧ w.cell? ⟨g, off + q * 4 + i * 4 + 3, none⟩ = some (.int .u8 p.c3)) ∧ (w.frozen? ⟨g, off + q * 4 + i * 4, none⟩ = false ∧ w.frozen? ⟨g, off + q * 4 + i * 4 + 1, none⟩ = false ∧ w.frozen? ⟨g, off + q * 4 + i * 4 + 2, none⟩ = false ∧ w.frozen? ⟨g, off + q * 4 + i * 4 + 3, none⟩ = false) := by
  have hl := vx_len h.v
  have hlt : q + i < l.length := (List.getElem?_eq_some_iff.1 hp).1
  obtain ⟨-, a0, a1, a2, a3⟩ := vx_at h.v hp
  obtain ⟨u0, u1, u2, u3, -, -, -, -, z0, z1, z2, z3⟩ := ox_four h (q := q) (i := i) (by omega)
  rw [show off + (q + i) * 4 = off + q * 4 + i * 4 by omega] at a0 a1 a2 a3
  exact ⟨⟨a0, a1, a2, a3⟩, z0, z1, z2, z3⟩
theorem vx_cells {w : World} {ao : Option Addr} {n m g off : Nat} {l : List X} (h : Vx w ao n m g off l) {q i : Nat} {p : X} (hp : l[q + i]? = some p) :
    w.cell? ⟨g, off + q * 4 + i * 4, none⟩ = some (.int .u8 p.c0) ∧ w.cell? ⟨g, off + q * 4 + i * 4 + 1, none⟩ = some (.int .u8 p.c1) ∧ w.cell? ⟨g, off + q * 4 + i * 4 + 2, none⟩ = some (.int .u8 p.c2) ∧ w.cell? ⟨g, off + q * 4 + i * 4 + 3, none⟩ = some (.int .u8 p.c3) := by
  obtain ⟨-, a0, a1, a2, a3⟩ := vx_at h hp
  rw [show off + (q + i) * 4 = off + q * 4 + i * 4 by omega] at a0 a1 a2 a3
  exact ⟨a0, a1, a2, a3⟩

/-- while a buffer is laid -/
structure Ls (lo : Nat) (w : World) (k2 k3 k4 : Nat) (M B A : R) (ao : Option Addr) (n m g off : Nat) (bo : Option Addr) (bn bm bg boff : Nat) (h F : Int → Int → X) (wr : World) : Prop where
  mm : Has5 wr k2 M ao n m
  s : Has5 wr k3 B bo bn bm
  a : Rc.Has4 wr k4 (.int .i64 A.x0) (.int .i64 A.y0) (.int .i64 A.x1) (.int .i64 A.y1)
  o : Ox lo wr ao n m g off (img M F)
  v : Vx wr bo bn bm bg boff (img B h)
  but : But g w wr
  ne : 0 < m → (k2 ≠ g ∧ k3 ≠ g ∧ k4 ≠ g) ∧ (0 < bn → bg ≠ g)
section
variable {lo : Nat} {w : World} {k2 k3 k4 : Nat} {M B A : R} {ao : Option Addr} {n m g off : Nat} {bo : Option Addr} {bn bm bg boff : Nat} {h F F' : Int → Int → X} {wr wr' : World}
theorem Ls.below (x : Ls lo w k2 k3 k4 M B A ao n m g off bo bn bm bg boff h F wr) (hb : Below wr.heap.size wr wr') : Ls lo w k2 k3 k4 M B A ao n m g off bo bn bm bg boff h F wr' :=
  ⟨x.mm.below hb, x.s.below hb, x.a.below hb, x.o.below hb, x.v.below hb, x.but.to hb, x.ne⟩
theorem Ls.to (x : Ls lo w k2 k3 k4 M B A ao n m g off bo bn bm bg boff h F wr) (hm : 0 < m) (hb : But g wr wr') (ho : Ox lo wr' ao n m g off (img M F')) : Ls lo w k2 k3 k4 M B A ao n m g off bo bn bm bg boff h F' wr' :=
  ⟨x.mm.but hb (x.ne hm).1.1, x.s.but hb (x.ne hm).1.2.1, has4_but x.a hb (x.ne hm).1.2.2, ho, vz_but x.v hb (fun hc => (x.ne hm).2 (by have := x.v.len; omega)), x.but.trans hb, x.ne⟩
end

set_option maxRecDepth 100000 in
set_option maxHeartbeats 8000000 in
theorem lay_any (lo g off n m : Nat) (ao : Option Addr) (M : R) (F : Int → Int → X) (B : R) (bo : Option Addr) (bn bm bg boff : Nat) (h : Int → Int → X) (w : World) (hn : n ≤ 5000) (hM : bufB M n = true) (hO : Ox lo w ao n m g off (img M F)) (hF : ∀ x y, byteX (F x y)) (hbn : bn ≤ 5000) (hB : bufB B bn = true) (hV : Vx w bo bn bm bg boff (img B h)) (hh : ∀ x y, byteX (h x y)) (hne : 0 < m → 0 < bn → bg ≠ g) :
    Calls Try.prog 57 #[.agg #[.int .i64 M.x0, .int .i64 M.y0, .int .i64 M.x1, .int .i64 M.y1, .slice ao n m], .agg #[.int .i64 B.x0, .int .i64 B.y0, .int .i64 B.x1, .int .i64 B.y1, .slice bo bn bm]] w fun e w' => e = .returned (.tuple #[]) ∧ Ox lo w' ao n m g off (img M (fun x y => overX (atX B h x y) (F x y))) ∧ But g w w' := by
  have hOM : Ok M := by
    rcases buf_cases hM with ⟨e1, e2, -⟩ | ⟨e1, e2, e3⟩
    · rw [e2]; exact ok_nil
    · exact ok_of_right e2
  have hOB : Ok B := by
    rcases buf_cases hB with ⟨e1, e2, -⟩ | ⟨e1, e2, e3⟩
    · rw [e2]; exact ok_nil
    · exact ok_of_right e2
  have hnM : n = wid M * hei M := by rw [← vx_len hO.v, img_len]
  have hnB : bn = wid B * hei B := by rw [← vx_len hV, img_len]
  have hbn2 : bn ≤ 9223372036854775807 := by omega
  obtain ⟨A, hA⟩ : ∃ A, A = meet M B := ⟨_, rfl⟩
  have HA := hid hA
  have HM : Hid (meet ⟨M.x0, M.y0, M.x1, M.y1⟩ ⟨B.x0, B.y0, B.x1, B.y1⟩ = A) := hA.symm
  have HAE : Hid (A.y0 < A.y1 → (M.x0 ≤ A.x0 ∧ A.x1 ≤ M.x1 ∧ M.y0 ≤ A.y0 ∧ A.y1 ≤ M.y1 ∧ A.x0 < A.x1) ∧ (B.x0 ≤ A.x0 ∧ A.x1 ≤ B.x1 ∧ B.y0 ≤ A.y0 ∧ A.y1 ≤ B.y1)) := by
    intro hl
    rw [hA] at hl ⊢
    have he := meet_some hl
    have h1 := meet_in he
    exact ⟨⟨h1.1, h1.2.1, h1.2.2.1, h1.2.2.2.1, h1.2.2.2.2.1⟩, meet_in2 he⟩
  have hAe := meet_edges M B
  rw [← hA] at hAe
  have hAok : Ok A := by rw [hA]; exact ok_meet hOM hOB
  obtain ⟨⟨i0, i1⟩, ⟨i2, i3⟩, ⟨i4, i5⟩, i6, i7⟩ := hAok
  obtain ⟨u, hu⟩ : ∃ u, u = atX B h := ⟨_, rfl⟩
  have HFU : Hid (img M (layO A u F A.y1) = img M (fun x y => overX (atX B h x y) (F x y))) := by rw [hA, hu]; exact lay_end hF
  have HU : Hid (∀ x y, hasB B x y = true → u x y = h x y) := fun x y hb => by rw [hu]; unfold atX; rw [if_pos hb]
  have HBY := hid (And.intro hF hh)
  have HN := hid (And.intro hOM (And.intro hnM (And.intro hO.v.le (And.intro hO.v.max trivial))))
  have HNB := hid (And.intro hOB (And.intro hnB (And.intro hV.le (And.intro hV.max trivial))))
  have HB := hid hB
  have HS0 : Hid (Has5 (((w.alloc (.cells #[.int .i64 M.x0, .int .i64 M.y0, .int .i64 M.x1, .int .i64 M.y1, .slice ao n m] 26)).alloc (.cells #[.int .i64 B.x0, .int .i64 B.y0, .int .i64 B.x1, .int .i64 B.y1, .slice bo bn bm] 26))) w.heap.size M ao n m ∧ Has5 (((w.alloc (.cells #[.int .i64 M.x0, .int .i64 M.y0, .int .i64 M.x1, .int .i64 M.y1, .slice ao n m] 26)).alloc (.cells #[.int .i64 B.x0, .int .i64 B.y0, .int .i64 B.x1, .int .i64 B.y1, .slice bo bn bm] 26))) (w.heap.size + 1) B bo bn bm ∧ Below w.heap.size w (((w.alloc (.cells #[.int .i64 M.x0, .int .i64 M.y0, .int .i64 M.x1, .int .i64 M.y1, .slice ao n m] 26)).alloc (.cells #[.int .i64 B.x0, .int .i64 B.y0, .int .i64 B.x1, .int .i64 B.y1, .slice bo bn bm] 26))) ∧ w.heap.size + 1 < (((w.alloc (.cells #[.int .i64 M.x0, .int .i64 M.y0, .int .i64 M.x1, .int .i64 M.y1, .slice ao n m] 26)).alloc (.cells #[.int .i64 B.x0, .int .i64 B.y0, .int .i64 B.x1, .int .i64 B.y1, .slice bo bn bm] 26))).heap.size) := ⟨(Has5.new rfl _ _ _ _ _ _ _ _).alloc _, Has5.new (by simp) _ _ _ _ _ _ _ _, ((Below.refl _ _).alloc (Nat.le_refl _) _).alloc (by simp) _, by simp⟩
  have HO := hid (And.intro hO (And.intro hV hne))
  rw [← HFU.out]
  clear hO hV hne hOM hOB hnM hnB hA hu hF hh hM hB
  obtain ⟨p0, p1, p2, p3, p4, pf⟩ := HS0.out.1
  obtain ⟨q0, q1, q2, q3, q4, qf⟩ := HS0.out.2.1
  go_enter Try.func57, Try.ntmps57
  go_wp2_with (first
    | (go_at_call 65; with_reducible refine Calls.mono (rasterRight_yes B.x0 B.y0 B.x1 B.y1 bo bn bm _ hbn2 HB.out) ?_; rintro e w1 ⟨rfl, hb1⟩; have HS1 := hid (And.intro (HS0.out.1.below hb1) (And.intro (HS0.out.2.1.below hb1) (Rc.via HS0.out.2.2.1 hb1))); have hz1 := hb1.size; clear hb1 p0 p1 p2 p3 p4 pf q0 q1 q2 q3 q4 qf; obtain ⟨p0, p1, p2, p3, p4, pf⟩ := HS1.out.1; obtain ⟨q0, q1, q2, q3, q4, qf⟩ := HS1.out.2.1)
    | (go_at_call 42; with_reducible refine Calls.mono (Rc.meet_any M.x0 M.y0 M.x1 M.y1 B.x0 B.y0 B.x1 B.y1 _) ?_; rintro e w2 ⟨rfl, hb2⟩; rw [HM.out]; have HS2 := hid (And.intro (HS1.out.1.below hb2) (And.intro (HS1.out.2.1.below hb2) (Rc.via HS1.out.2.2 hb2))); have hz2 := hb2.size; clear hb2 p0 p1 p2 p3 p4 pf q0 q1 q2 q3 q4 qf))
  have HLS : Hid (Ls lo w w.heap.size (w.heap.size + 1) w2.heap.size M B A ao n m g off bo bn bm bg boff h (layO A u F A.y0) (w2.alloc (.cells #[.int .i64 A.x0, .int .i64 A.y0, .int .i64 A.x1, .int .i64 A.y1] 23))) := by
    rw [lay_start]
    have hal : Below w2.heap.size w2 (w2.alloc (.cells #[.int .i64 A.x0, .int .i64 A.y0, .int .i64 A.x1, .int .i64 A.y1] 23)) := (Below.refl _ _).alloc (Nat.le_refl _) _
    have hb : Below w.heap.size w (w2.alloc (.cells #[.int .i64 A.x0, .int .i64 A.y0, .int .i64 A.x1, .int .i64 A.y1] 23)) := Rc.via HS2.out.2.2 hal
    have hz := HS2.out.2.2.size
    refine ⟨HS2.out.1.below hal, HS2.out.2.1.below hal, Rc.Has4.new rfl _ _ _ _ _, HO.out.1.below hb, HO.out.2.1.below hb, But.of hb, fun hm => ?_⟩
    have := (HO.out.1.new hm).2
    exact ⟨⟨by omega, by omega, by omega⟩, HO.out.2.2 hm⟩
  clear HS0 HS1 HS2 HO hz1 hz2
  generalize w2.alloc (.cells #[.int .i64 A.x0, .int .i64 A.y0, .int .i64 A.x1, .int .i64 A.y1] 23) = w3 at HLS ⊢
  generalize w2.heap.size = k4 at HLS ⊢
  clear w1 w2
  go_loopg [5] (A.y1 - A.y0).toNat (fun gh v5 wr => ∃ y, A.y0 ≤ y ∧ y ≤ A.y1 ∧ gh = (A.y1 - y).toNat ∧ v5 = .int .i64 y ∧ Ls lo w w.heap.size (w.heap.size + 1) k4 M B A ao n m g off bo bn bm bg boff h (layO A u F y) wr)
  case atStart => exact ⟨A.y0, Int.le_refl _, hAe.2, rfl, rfl, HLS.out⟩
  case round =>
    clear HLS
    obtain ⟨y, hy0, hy1, rfl, rfl, hL⟩ := hrel
    have HL := hid hL
    obtain ⟨r0, r1, r2, r3, rf⟩ := hL.a
    by_cases hlt : y < A.y1
    · obtain ⟨⟨a0, a1, a2, a3, a4⟩, b0, b1, b2, b3⟩ := HAE.out (by omega)
      have hIM : In M A.x0 A.x1 y := ⟨by omega, by omega, by omega, by omega, by omega⟩
      have hIB : In B A.x0 A.x1 y := ⟨by omega, by omega, by omega, by omega, by omega⟩
      have hpM := pos_end ⟨hIM.y0, hIM.y1⟩ hIM.x0 hIM.le hIM.x1
      have hpB := pos_end ⟨hIB.y0, hIB.y1⟩ hIB.x0 hIB.le hIB.x1
      rw [← HN.out.2.1] at hpM
      rw [← HNB.out.2.1] at hpB
      obtain ⟨K, hK⟩ : ∃ K, K = (A.x1 - A.x0).toNat := ⟨_, rfl⟩
      have HK : Hid ((A.x1 - A.x0).toNat = K) := hK.symm
      rw [← hK] at hpM hpB
      have hKx : A.x0 + (K : Int) = A.x1 := by omega
      have hK0 : 0 < K := by omega
      have hm0 : 0 < m := by have := HN.out.2.2.1; omega
      have hbm0 : 0 < bm := by have := HNB.out.2.2.1; omega
      obtain rfl := hL.o.v.addr hm0
      obtain rfl := hL.v.addr hbm0
      obtain ⟨qm, hqm⟩ : ∃ q, q = posN M A.x0 y := ⟨_, rfl⟩
      obtain ⟨qb, hqb⟩ : ∃ q, q = posN B A.x0 y := ⟨_, rfl⟩
      have HI := hid (And.intro hIM (And.intro hIB (And.intro a4 (And.intro hqm.symm (And.intro hqb.symm hm0)))))
      rw [← hqm] at hpM
      rw [← hqb] at hpB
      obtain ⟨p0, p1, p2, p3, p4, pf⟩ := hL.mm
      obtain ⟨q0, q1, q2, q3, q4, qf⟩ := hL.s
      clear hL hIM hIB hqm hqb hK
      go_wp2_with (first
        | (go_at_call 45; with_reducible refine Calls.mono (mrow_of M g off n m A.x0 A.x1 y _ HN.out.1 HN.out.2.1 hn HN.out.2.2.1 HN.out.2.2.2.1 HI.out.1 HI.out.2.2.1) ?_; rintro e w4 ⟨rfl, hb4⟩; rw [HK.out, HI.out.2.2.2.1]; have HL4 := hid (HL.out.below hb4); clear hb4 p0 p1 p2 p3 p4 pf q0 q1 q2 q3 q4 qf r0 r1 r2 r3 rf; obtain ⟨q0, q1, q2, q3, q4, qf⟩ := HL4.out.s; obtain ⟨r0, r1, r2, r3, rf⟩ := HL4.out.a)
        | (go_at_call 45; with_reducible refine Calls.mono (mrow_of B bg boff bn bm A.x0 A.x1 y _ HNB.out.1 HNB.out.2.1 hbn HNB.out.2.2.1 HNB.out.2.2.2.1 HI.out.2.1 HI.out.2.2.1) ?_; rintro e w5 ⟨rfl, hb5⟩; rw [HK.out, HI.out.2.2.2.2.1]; have HL5 := hid (HL4.out.below hb5); clear hb5 q0 q1 q2 q3 q4 qf r0 r1 r2 r3 rf))
      have HL6 : Hid (Ls lo w w.heap.size (w.heap.size + 1) k4 M B A (some ⟨g, off, none⟩) n m g off (some ⟨bg, boff, none⟩) bn bm bg boff h (layG A u F (A.x0 + ((0 : Nat) : Int)) y) w5) := by
        have h1 := HL5.out
        rw [show A.x0 + ((0 : Nat) : Int) = A.x0 by simp, lay_row0]
        exact h1
      clear HL HL4 HL5
      go_loopg [40] K (fun gh v40 wr => ∃ i : Nat, i ≤ K ∧ gh = K - i ∧ v40 = .int .i64 (i : Int) ∧ Ls lo w w.heap.size (w.heap.size + 1) k4 M B A (some ⟨g, off, none⟩) n m g off (some ⟨bg, boff, none⟩) bn bm bg boff h (layG A u F (A.x0 + (i : Int)) y) wr)
      case atStart => exact ⟨0, Nat.zero_le _, rfl, rfl, HL6.out⟩
      case round =>
        clear HL6
        obtain ⟨i, hi, rfl, rfl, hL⟩ := hrel
        have HL := hid hL
        by_cases hil : i < K
        · have hiz : (i : Int) < (K : Int) := by omega
          obtain ⟨p, hp⟩ : ∃ p, p = h (A.x0 + (i : Int)) y := ⟨_, rfl⟩
          obtain ⟨q, hq⟩ : ∃ q, q = F (A.x0 + (i : Int)) y := ⟨_, rfl⟩
          have hbA : hasB A (A.x0 + (i : Int)) y = true := hasB_iff'.2 (by omega)
          have hbM : hasB M (A.x0 + (i : Int)) y = true := hasB_iff'.2 (by omega)
          have hbB : hasB B (A.x0 + (i : Int)) y = true := hasB_iff'.2 (by omega)
          have hposM : posN M (A.x0 + (i : Int)) y = qm + i := by rw [← HI.out.2.2.2.1]; unfold posN; omega
          have hposB : posN B (A.x0 + (i : Int)) y = qb + i := by rw [← HI.out.2.2.2.2.1]; unfold posN; omega
          have hpix : (img B h)[qb + i]? = some p := by rw [hp, ← hposB]; exact at_img h hbB
          have hqix : (img M (layG A u F (A.x0 + (i : Int)) y))[qm + i]? = some q := by rw [hq, ← hposM, at_img _ hbM, lay_at]
          have HPQ : Hid (byteX ⟨p.c0, p.c1, p.c2, p.c3⟩ ∧ byteX ⟨q.c0, q.c1, q.c2, q.c3⟩) := by rw [hp, hq]; exact ⟨HBY.out.2 _ _, HBY.out.1 _ _⟩
          have HST : Hid (putG (layG A u F (A.x0 + (i : Int)) y) y (A.x0 + (i : Int)) (A.x0 + (i : Int) + 1) (fun _ => overX ⟨p.c0, p.c1, p.c2, p.c3⟩ ⟨q.c0, q.c1, q.c2, q.c3⟩) = layG A u F (A.x0 + ((i + 1 : Nat) : Int)) y) := by
            have h1 := lay_step (u := u) (F := F) hbA
            rw [HU.out _ _ hbB, ← hp, ← hq] at h1
            rw [show A.x0 + ((i + 1 : Nat) : Int) = A.x0 + (i : Int) + 1 by omega]
            exact h1
          have HPX : Hid (posN M (A.x0 + (i : Int)) y = qm + i ∧ In M (A.x0 + (i : Int)) (A.x0 + (i : Int) + 1) y) := ⟨hposM, by omega, by omega, by omega, by omega, by omega⟩
          have hqix' := hid hqix
          obtain ⟨c0, c1, c2, c3⟩ := vx_cells hL.v hpix
          have hqm : qm + i < n := by omega
          have hqb : qb + i < bn := by omega
          clear hL hp hq hposM hposB hpix hqix hbA hbM hbB
          go_wp2
          have HL1 : Hid (Ls lo w w.heap.size (w.heap.size + 1) k4 M B A (some ⟨g, off, none⟩) n m g off (some ⟨bg, boff, none⟩) bn bm bg boff h (layG A u F (A.x0 + (i : Int)) y) (wr.alloc (.cells #[.int .u8 p.c0, .int .u8 p.c1, .int .u8 p.c2, .int .u8 p.c3] 28)) ∧ Rc.Has4 (wr.alloc (.cells #[.int .u8 p.c0, .int .u8 p.c1, .int .u8 p.c2, .int .u8 p.c3] 28)) wr.heap.size (.int .u8 p.c0) (.int .u8 p.c1) (.int .u8 p.c2) (.int .u8 p.c3)) := ⟨HL.out.below ((Below.refl _ _).alloc (Nat.le_refl _) _), Rc.Has4.new rfl _ _ _ _ _⟩
          clear c0 c1 c2 c3 HL
          generalize wr.alloc (.cells #[.int .u8 p.c0, .int .u8 p.c1, .int .u8 p.c2, .int .u8 p.c3] 28) = wr1 at HL1 ⊢
          generalize wr.heap.size = k8 at HL1 ⊢
          obtain ⟨e0, e1, e2, e3, ef⟩ := HL1.out.2
          obtain ⟨⟨c0, c1, c2, c3⟩, z0, z1, z2, z3⟩ := ox_cells HL1.out.1.o hqix'.out
          go_region_with (go_at_call 77; with_reducible refine Calls.mono (over4 p.c0 p.c1 p.c2 p.c3 q.c0 q.c1 q.c2 q.c3 _ HPQ.out.1 HPQ.out.2) ?_; rintro e w6 ⟨rfl, hb6⟩; have HL2 := hid (HL1.out.1.below (Rc.via (Below.refl _ _).drew hb6)); clear hb6 c0 c1 c2 c3 z0 z1 z2 z3 e0 e1 e2 e3 ef; obtain ⟨⟨c0, c1, c2, c3⟩, z0, z1, z2, z3⟩ := ox_cells HL2.out.o hqix'.out)
          all_goals
            go_wp2
            go_roundg (K - (i + 1))
            case measure => omega
            case rel =>
              obtain ⟨h1, h2⟩ := ox_pix HL2.out.o HPX.out.1 HPX.out.2 (overX ⟨p.c0, p.c1, p.c2, p.c3⟩ ⟨q.c0, q.c1, q.c2, q.c3⟩)
              rw [HST.out] at h1
              exact ⟨i + 1, by omega, rfl, by simp, HL2.out.to HI.out.2.2.2.2.2 h2 h1⟩
        · obtain rfl : K = i := by omega
          have HL2 : Hid (Ls lo w w.heap.size (w.heap.size + 1) k4 M B A (some ⟨g, off, none⟩) n m g off (some ⟨bg, boff, none⟩) bn bm bg boff h (layO A u F (y + 1)) wr) := by
            have h1 := HL.out
            rw [hKx, lay_row1] at h1
            exact h1
          clear hL HL
          go_wp2
          go_roundg (A.y1 - (y + 1)).toNat
          case measure => omega
          case rel => exact ⟨y + 1, by omega, by omega, rfl, rfl, HL2.out⟩
    · obtain rfl : y = A.y1 := by omega
      clear hL
      go_wp2
      refine bodyPost_end (v := .tuple #[]) (by simp [results, Try.results57, go_sem]) rfl ⟨rfl, HL.out.o, HL.out.but⟩
end Go.Proofs.Ytfgfgfmimejpdaa
/- One buffer on top of another: the contract of the document. -/
namespace Go.Proofs.Ytfgfgfmimejpdaa
open Num Go.RowKit
set_option linter.unusedVariables false
set_option linter.unusedSimpArgs false

theorem refOver4 (a0 a1 a2 a3 b0 b1 b2 b3 : Int) (w : World) (ha : byteX ⟨a0, a1, a2, a3⟩) (hb : byteX ⟨b0, b1, b2, b3⟩) : Calls Try.prog 80 #[.int .i64 0, .agg #[.int .u8 a0, .int .u8 a1, .int .u8 a2, .int .u8 a3], .agg #[.int .u8 b0, .int .u8 b1, .int .u8 b2, .int .u8 b3]] w fun e w' => e = .returned (pxV (overX ⟨a0, a1, a2, a3⟩ ⟨b0, b1, b2, b3⟩)) ∧ Below w.heap.size w w' := refOver_any ⟨a0, a1, a2, a3⟩ ⟨b0, b1, b2, b3⟩ w ha hb
/-- what is handed in stands -/
structure Ow (k : Nat) (A B D : R) (ao : Option Addr) (n m : Nat) (bo : Option Addr) (bn bm : Nat) (w : World) : Prop where
  a : Has5 w k A ao n m
  b : Has5 w (k + 1) B bo bn bm
  d : Rc.Has4 w (k + 1 + 1) (.int .i64 D.x0) (.int .i64 D.y0) (.int .i64 D.x1) (.int .i64 D.y1)
  z : Has5 w (k + 1 + 1 + 1) ⟨0, 0, 0, 0⟩ none 0 0
section
variable {k : Nat} {A B D : R} {ao : Option Addr} {n m : Nat} {bo : Option Addr} {bn bm : Nat} {w w' : World}
theorem Ow.below (h : Ow k A B D ao n m bo bn bm w) (hb : Below w.heap.size w w') : Ow k A B D ao n m bo bn bm w' := ⟨h.a.below hb, h.b.below hb, h.d.below hb, h.z.below hb⟩
theorem Ow.low (h : Ow k A B D ao n m bo bn bm w) {lo : Nat} (hb : Below lo w w') (hl : k + 1 + 1 + 1 < lo) : Ow k A B D ao n m bo bn bm w' := ⟨has5_low h.a hb (by omega), has5_low h.b hb (by omega), has4_low h.d hb (by omega), has5_low h.z hb hl⟩
theorem Ow.but (h : Ow k A B D ao n m bo bn bm w) (hb : But (k + 1 + 1 + 1 + 1) w w') : Ow k A B D ao n m bo bn bm w' := ⟨h.a.but hb (by omega), h.b.but hb (by omega), has4_but h.d hb (by omega), h.z.but hb (by omega)⟩
end
abbrev O10 (s : Nat) (A B : R) (v u : Value) (w' : World) : Prop := w'.cell? ⟨s, 0, none⟩ = some (.int .i64 A.x0) ∧ w'.cell? ⟨s, 1, none⟩ = some (.int .i64 A.y0) ∧ w'.cell? ⟨s, 2, none⟩ = some (.int .i64 A.x1) ∧ w'.cell? ⟨s, 3, none⟩ = some (.int .i64 A.y1) ∧ w'.cell? ⟨s, 4, none⟩ = some (v) ∧ w'.cell? ⟨(s + 1), 0, none⟩ = some (.int .i64 B.x0) ∧ w'.cell? ⟨(s + 1), 1, none⟩ = some (.int .i64 B.y0) ∧ w'.cell? ⟨(s + 1), 2, none⟩ = some (.int .i64 B.x1) ∧ w'.cell? ⟨(s + 1), 3, none⟩ = some (.int .i64 B.y1) ∧ w'.cell? ⟨(s + 1), 4, none⟩ = some (u)
theorem O10_block {s : Nat} {A B : R} {v u : Value} {w1 w2 : World} (h : O10 s A B v u w1) (e0 : s < w1.heap.size → w2.heap[s]? = w1.heap[s]?) (e1 : (s + 1) < w1.heap.size → w2.heap[(s + 1)]? = w1.heap[(s + 1)]?) : O10 s A B v u w2 := by
  obtain ⟨c0, c1, c2, c3, c4, c5, c6, c7, c8, c9⟩ := h
  have e0 := fun o => World.cell?_of_block (a := ⟨s, o, none⟩) (e0 (World.block_lt_of_cell? w1 ⟨s, 0, none⟩ c0))
  have e1 := fun o => World.cell?_of_block (a := ⟨(s + 1), o, none⟩) (e1 (World.block_lt_of_cell? w1 ⟨(s + 1), 0, none⟩ c5))
  exact ⟨by rw [e0]; exact c0, by rw [e0]; exact c1, by rw [e0]; exact c2, by rw [e0]; exact c3, by rw [e0]; exact c4, by rw [e1]; exact c5, by rw [e1]; exact c6, by rw [e1]; exact c7, by rw [e1]; exact c8, by rw [e1]; exact c9⟩
theorem O10_below {s : Nat} {A B : R} {v u : Value} {w1 w2 : World} (h : O10 s A B v u w1) (hb : Below w1.heap.size w1 w2) : O10 s A B v u w2 := O10_block h (fun l => hb.block _ l) (fun l => hb.block _ l)
theorem O10_drew {s : Nat} {A B : R} {v u : Value} {w1 : World} (h : O10 s A B v u w1) : O10 s A B v u w1.drew := O10_below h (Below.refl _ _).drew
theorem O10_alloc {s : Nat} {A B : R} {v u : Value} {w1 : World} {o : Obj} (h : O10 s A B v u w1) : O10 s A B v u (w1.alloc o) := O10_below h ((Below.refl _ _).alloc (Nat.le_refl _) _)
theorem O10_but {s : Nat} {A B : R} {v u : Value} {g : Nat} {w1 w2 : World} (h : O10 s A B v u w1) (hb : But g w1 w2) (h0 : s ≠ g) (h1 : (s + 1) ≠ g) : O10 s A B v u w2 := O10_block h (fun l => hb.block _ l h0) (fun l => hb.block _ l h1)
theorem O10_set5 {s : Nat} {A B : R} {v u : Value} {j : Nat} {w1 : World} {v0 v1 v2 v3 v4 : Value} (h : O10 s A B v u w1) (h0 : s ≠ j) (h1 : (s + 1) ≠ j) : O10 s A B v u (((((w1.setCell ⟨j, 0, none⟩ v0).setCell ⟨j, 1, none⟩ v1).setCell ⟨j, 2, none⟩ v2).setCell ⟨j, 3, none⟩ v3).setCell ⟨j, 4, none⟩ v4) := O10_but h (but_set5 w1 j v0 v1 v2 v3 v4) h0 h1
theorem O10_set4 {s : Nat} {A B : R} {v u : Value} {j : Nat} {w1 : World} {v0 v1 v2 v3 : Value} (h : O10 s A B v u w1) (h0 : s ≠ j) (h1 : (s + 1) ≠ j) : O10 s A B v u ((((w1.setCell ⟨j, 0, none⟩ v0).setCell ⟨j, 1, none⟩ v1).setCell ⟨j, 2, none⟩ v2).setCell ⟨j, 3, none⟩ v3) := O10_but h (but_set4 w1 j v0 v1 v2 v3) h0 h1

set_option maxRecDepth 100000 in
set_option maxHeartbeats 8000000 in
theorem refOverB_any (A : R) (ao : Option Addr) (n m g off : Nat) (f : Int → Int → X) (B : R) (bo : Option Addr) (bn bm bg boff : Nat) (h : Int → Int → X) (D : R) (w : World) (hAo : Ok A) (hn : n ≤ 5000) (hV : Vx w ao n m g off (img A f)) (hf : ∀ x y, byteX (f x y)) (hBo : Ok B) (hbn : bn ≤ 5000) (hVb : Vx w bo bn bm bg boff (img B h)) (hh : ∀ x y, byteX (h x y)) (hD : Ok D) (ha : area D ≤ 5000) :
    Calls Try.prog 60 #[.agg #[.int .i64 A.x0, .int .i64 A.y0, .int .i64 A.x1, .int .i64 A.y1, .slice ao n m], .agg #[.int .i64 B.x0, .int .i64 B.y0, .int .i64 B.x1, .int .i64 B.y1, .slice bo bn bm], .agg #[.int .i64 D.x0, .int .i64 D.y0, .int .i64 D.x1, .int .i64 D.y1]] w fun e w' => RetB w.heap.size w' e (orN D) (img (orN D) (fun x y => overX (atX A f x y) (atX B h x y))) ∧ Below w.heap.size w w' := by
  have HW : Hid (Ow w.heap.size A B D ao n m bo bn bm ((((((w.alloc (.cells #[.int .i64 A.x0, .int .i64 A.y0, .int .i64 A.x1, .int .i64 A.y1, .slice ao n m] 26)).alloc (.cells #[.int .i64 B.x0, .int .i64 B.y0, .int .i64 B.x1, .int .i64 B.y1, .slice bo bn bm] 26)).alloc (.cells #[.int .i64 D.x0, .int .i64 D.y0, .int .i64 D.x1, .int .i64 D.y1] 23)).alloc (.cells #[.int .i64 0, .int .i64 0, .int .i64 0, .int .i64 0, .slice none 0 0] 26)).alloc (.cells #[.int .i64 0, .int .i64 0, .int .i64 0, .int .i64 0, .slice none 0 0] 26))) ∧ Has5 ((((((w.alloc (.cells #[.int .i64 A.x0, .int .i64 A.y0, .int .i64 A.x1, .int .i64 A.y1, .slice ao n m] 26)).alloc (.cells #[.int .i64 B.x0, .int .i64 B.y0, .int .i64 B.x1, .int .i64 B.y1, .slice bo bn bm] 26)).alloc (.cells #[.int .i64 D.x0, .int .i64 D.y0, .int .i64 D.x1, .int .i64 D.y1] 23)).alloc (.cells #[.int .i64 0, .int .i64 0, .int .i64 0, .int .i64 0, .slice none 0 0] 26)).alloc (.cells #[.int .i64 0, .int .i64 0, .int .i64 0, .int .i64 0, .slice none 0 0] 26))) (w.heap.size + 1 + 1 + 1 + 1) ⟨0, 0, 0, 0⟩ none 0 0 ∧ Below w.heap.size w ((((((w.alloc (.cells #[.int .i64 A.x0, .int .i64 A.y0, .int .i64 A.x1, .int .i64 A.y1, .slice ao n m] 26)).alloc (.cells #[.int .i64 B.x0, .int .i64 B.y0, .int .i64 B.x1, .int .i64 B.y1, .slice bo bn bm] 26)).alloc (.cells #[.int .i64 D.x0, .int .i64 D.y0, .int .i64 D.x1, .int .i64 D.y1] 23)).alloc (.cells #[.int .i64 0, .int .i64 0, .int .i64 0, .int .i64 0, .slice none 0 0] 26)).alloc (.cells #[.int .i64 0, .int .i64 0, .int .i64 0, .int .i64 0, .slice none 0 0] 26)))) :=
    ⟨⟨((((Has5.new rfl _ _ _ _ _ _ _ _).alloc _).alloc _).alloc _).alloc _, (((Has5.new (by simp) _ _ _ _ _ _ _ _).alloc _).alloc _).alloc _, ((Rc.Has4.new (by simp) _ _ _ _ _).alloc _).alloc _, (Has5.new (by simp) _ _ _ _ _ _ _ _).alloc _⟩, Has5.new (by simp) _ _ _ _ _ _ _ _, (((((Below.refl _ _).alloc (Nat.le_refl _) _).alloc (by simp) _).alloc (by simp; omega) _).alloc (by simp; omega) _).alloc (by simp; omega) _⟩
  have HH := hid (And.intro hV (And.intro hAo (And.intro hVb (And.intro hBo (And.intro (show ∀ x y, byteX (atX A f x y) from at_byte hf) (show ∀ x y, byteX (atX B h x y) from at_byte hh))))))
  have HLO : Hid (w.heap.size + 1 + 1 + 1 < w.heap.size + 1 + 1 + 1 + 1) := by show _ < _; omega

  obtain ⟨G, hG⟩ : ∃ G, G = (fun x y => overX (atX A f x y) (atX B h x y)) := ⟨_, rfl⟩
  rw [← hG]
  have HGG := hid hG
  obtain ⟨d0, d1, d2, d3, df⟩ := HW.out.1.d
  rcases he : empB D with _ | _
  · obtain ⟨x01, y01⟩ := of_some he
    have ha' := ha
    obtain ⟨-, s5, -⟩ := size_of hD he ha'
    rw [orN_no he]
    have HE : Hid (empB ⟨D.x0, D.y0, D.x1, D.y1⟩ = false) := he
    have hDo := hD
    obtain ⟨⟨i0, i1⟩, ⟨i2, i3⟩, ⟨i4, i5⟩, i6, i7⟩ := hDo
    clear hV hAo hBo hVb hf hh ha ha' he hG hD
    go_enter Try.func60, Try.ntmps60
    go_wp2_with (go_at_call 15; with_reducible refine Calls.mono (Rc.refEmpty_any D.x0 D.y0 D.x1 D.y1 _) ?_; rintro e w1 ⟨rfl, hb1⟩; rw [HE.out]; have HW1 := hid (And.intro (HW.out.1.below hb1) (And.intro (HW.out.2.1.below hb1) (Rc.via HW.out.2.2 hb1))); clear hb1 d0 d1 d2 d3 df; obtain ⟨d0, d1, d2, d3, df⟩ := HW1.out.1.d; obtain ⟨o0, o1, o2, o3, o4, of4⟩ := HW1.out.2.1)
    have hbs := but_set4 w1 (w.heap.size + 1 + 1 + 1 + 1) (.int .i64 D.x0) (.int .i64 D.y0) (.int .i64 D.x1) (.int .i64 D.y1)
    have HX : Hid (Ow w.heap.size A B D ao n m bo bn bm ((((w1.setCell ⟨w.heap.size + 1 + 1 + 1 + 1, 0, none⟩ (.int .i64 D.x0)).setCell ⟨w.heap.size + 1 + 1 + 1 + 1, 1, none⟩ (.int .i64 D.y0)).setCell ⟨w.heap.size + 1 + 1 + 1 + 1, 2, none⟩ (.int .i64 D.x1)).setCell ⟨w.heap.size + 1 + 1 + 1 + 1, 3, none⟩ (.int .i64 D.y1)) ∧ Below w.heap.size w ((((w1.setCell ⟨w.heap.size + 1 + 1 + 1 + 1, 0, none⟩ (.int .i64 D.x0)).setCell ⟨w.heap.size + 1 + 1 + 1 + 1, 1, none⟩ (.int .i64 D.y0)).setCell ⟨w.heap.size + 1 + 1 + 1 + 1, 2, none⟩ (.int .i64 D.x1)).setCell ⟨w.heap.size + 1 + 1 + 1 + 1, 3, none⟩ (.int .i64 D.y1)) ∧ Gs ((((w1.setCell ⟨w.heap.size + 1 + 1 + 1 + 1, 0, none⟩ (.int .i64 D.x0)).setCell ⟨w.heap.size + 1 + 1 + 1 + 1, 1, none⟩ (.int .i64 D.y0)).setCell ⟨w.heap.size + 1 + 1 + 1 + 1, 2, none⟩ (.int .i64 D.x1)).setCell ⟨w.heap.size + 1 + 1 + 1 + 1, 3, none⟩ (.int .i64 D.y1)) (w.heap.size + 1 + 1 + 1 + 1) D [] none 0 0 0 0 ((((w1.setCell ⟨w.heap.size + 1 + 1 + 1 + 1, 0, none⟩ (.int .i64 D.x0)).setCell ⟨w.heap.size + 1 + 1 + 1 + 1, 1, none⟩ (.int .i64 D.y0)).setCell ⟨w.heap.size + 1 + 1 + 1 + 1, 2, none⟩ (.int .i64 D.x1)).setCell ⟨w.heap.size + 1 + 1 + 1 + 1, 3, none⟩ (.int .i64 D.y1))) :=
      ⟨HW1.out.1.but hbs, HW1.out.2.2.trans (hbs.low (by omega) HW1.out.2.2.size), ⟨has5_box HW1.out.2.1 _ _ _ _, oz_nil _ _ _ _, Below.refl _ _⟩⟩
    clear hbs d0 d1 d2 d3 df o0 o1 o2 o3 o4 of4 HW1
    generalize ((((w1.setCell ⟨w.heap.size + 1 + 1 + 1 + 1, 0, none⟩ (.int .i64 D.x0)).setCell ⟨w.heap.size + 1 + 1 + 1 + 1, 1, none⟩ (.int .i64 D.y0)).setCell ⟨w.heap.size + 1 + 1 + 1 + 1, 2, none⟩ (.int .i64 D.x1)).setCell ⟨w.heap.size + 1 + 1 + 1 + 1, 3, none⟩ (.int .i64 D.y1)) = W0 at HX ⊢
    go_loopg [8] (D.y1 - D.y0).toNat (fun gh v12 wr => ∃ y oo on om og ooff, D.y0 ≤ y ∧ y ≤ D.y1 ∧ gh = (D.y1 - y).toNat ∧ v12 = .int .i64 y ∧ Gs W0 (w.heap.size + 1 + 1 + 1 + 1) D ((img D G).take (posN D D.x0 y)) oo on om og ooff wr)
    case atStart => exact ⟨D.y0, none, 0, 0, 0, 0, Int.le_refl _, by omega, rfl, rfl, by rw [pos_first]; exact HX.out.2.2⟩
    case round =>
      obtain ⟨y, oo, on, om, og, ooff, hy0, hy1, rfl, rfl, hG⟩ := hrel
      have HG1 := hid hG
      obtain ⟨d0, d1, d2, d3, df⟩ := (HX.out.1.low hG.low (by omega)).d
      by_cases hlt : y < D.y1
      · clear hG
        go_wp2
        go_loopg [9] (D.x1 - D.x0).toNat (fun gh v13 wr => ∃ x oo on om og ooff, D.x0 ≤ x ∧ x ≤ D.x1 ∧ gh = (D.x1 - x).toNat ∧ v13 = .int .i64 x ∧ Gs W0 (w.heap.size + 1 + 1 + 1 + 1) D ((img D G).take (posN D x y)) oo on om og ooff wr)
        case atStart => exact ⟨D.x0, _, _, _, _, _, Int.le_refl _, by omega, rfl, rfl, HG1.out⟩
        case round =>
          clear HG1 d0 d1 d2 d3 df oo on om og ooff
          obtain ⟨x, oo, on, om, og, ooff, hx0, hx1, rfl, rfl, hG⟩ := hrel
          have HG1 := hid hG
          obtain ⟨d0, d1, d2, d3, df⟩ := (HX.out.1.low hG.low (by omega)).d
          by_cases hltx : x < D.x1
          · have hon : on ≤ 1000000 := by have h1 := vx_len hG.x.v; have h2 := take_len D G (posN D x y); omega
            have hl5 : w.heap.size + 1 + 1 + 1 + 1 < wr.heap.size := hG.lt
            have HBX : Hid (hasB D x y = true) := decide_eq_true (by omega)
            obtain ⟨p, hp⟩ : ∃ p, p = atX A f x y := ⟨_, rfl⟩
            obtain ⟨q, hq⟩ : ∃ q, q = atX B h x y := ⟨_, rfl⟩
            have HPQ : Hid (atX A f x y = p ∧ atX B h x y = q ∧ overX ⟨p.c0, p.c1, p.c2, p.c3⟩ ⟨q.c0, q.c1, q.c2, q.c3⟩ = G x y) := by
              refine ⟨hp.symm, hq.symm, ?_⟩
              rw [HGG.out, hp, hq]
            have HBY : Hid (byteX ⟨p.c0, p.c1, p.c2, p.c3⟩ ∧ byteX ⟨q.c0, q.c1, q.c2, q.c3⟩) := by
              rw [hp, hq]
              exact ⟨HH.out.2.2.2.2.1 x y, HH.out.2.2.2.2.2 x y⟩
            have HN : Hid ((n ≤ 1000000 ∧ bn ≤ 1000000) ∧ (-9000000000000 ≤ x ∧ x ≤ 9000000000000) ∧ (-9000000000000 ≤ y ∧ y ≤ 9000000000000)) := by show (_ ∧ _) ∧ (_ ∧ _) ∧ (_ ∧ _); omega
            have HVa : Hid (Vx wr ao n m g off (img A f)) := HH.out.1.below (HX.out.2.1.trans (HG1.out.low.mono (by omega)))
            have HVb : Hid (Vx wr bo bn bm bg boff (img B h)) := HH.out.2.2.1.below (HX.out.2.1.trans (HG1.out.low.mono (by omega)))
            clear hp hq
            obtain ⟨o0, o1, o2, o3, o4, of4⟩ := HG1.out.o
            obtain ⟨q0, q1, q2, q3, q4, qf⟩ := (HX.out.1.low HG1.out.low (by omega)).a
            obtain ⟨r0, r1, r2, r3, r4, rf⟩ := (HX.out.1.low HG1.out.low (by omega)).b
            clear hG
            go_wp2
            have hS : O10 w.heap.size A B (.slice ao n m) (.slice bo bn bm) wr.drew := O10_drew ⟨q0, q1, q2, q3, q4, r0, r1, r2, r3, r4⟩
            replace HG1 := hid (HG1.out.below (Below.refl _ _).drew)
            replace HVa := hid (HVa.out.below (Below.refl _ _).drew)
            replace HVb := hid (HVb.out.below (Below.refl _ _).drew)
            clear q0 q1 q2 q3 q4 qf r0 r1 r2 r3 r4 rf o0 o1 o2 o3 o4 of4
            replace hl5 : w.heap.size + 1 + 1 + 1 + 1 < wr.drew.heap.size := hl5
            refine wp_region_held_drew (S := (fun w' => w'.cell? ⟨w.heap.size, 0, none⟩ = some (.int .i64 A.x0) ∧ w'.cell? ⟨w.heap.size, 1, none⟩ = some (.int .i64 A.y0) ∧ w'.cell? ⟨w.heap.size, 2, none⟩ = some (.int .i64 A.x1) ∧ w'.cell? ⟨w.heap.size, 3, none⟩ = some (.int .i64 A.y1) ∧ w'.cell? ⟨w.heap.size, 4, none⟩ = some (.slice ao n m) ∧ w'.cell? ⟨(w.heap.size + 1), 0, none⟩ = some (.int .i64 B.x0) ∧ w'.cell? ⟨(w.heap.size + 1), 1, none⟩ = some (.int .i64 B.y0) ∧ w'.cell? ⟨(w.heap.size + 1), 2, none⟩ = some (.int .i64 B.x1) ∧ w'.cell? ⟨(w.heap.size + 1), 3, none⟩ = some (.int .i64 B.y1) ∧ w'.cell? ⟨(w.heap.size + 1), 4, none⟩ = some (.slice bo bn bm))) (by kernel_rfl) ?_ (fun hHeld => ?_)
            · exact hS
            generalize wr.drew = wd at HG1 HVa HVb hS hHeld hl5 ⊢
            obtain ⟨o0, o1, o2, o3, o4, of4⟩ := HG1.out.o
            refine wpAnyH_take (i := 1) (oi := { dst := some 33, op := Op.load 26 (Operand.tmp 3), type := 26, pos := "ref.go:61", after := #[], guard := none }) (v := ?_) rfl (by kernel_rfl) (by kernel_rfl) (by kernel_rfl) (fun _ _ _ h => h) (Or.inl ⟨by rfl, ?hy⟩) (by assumption) ?_
            case hy => (intro w hSw; (try dsimp only at hSw); go_simp; first | done | with_reducible rfl)
            try simp only [Act.put, List.setIfInBounds_toArray, List.set_cons_zero, List.set_cons_succ]
            refine wpAnyH_take (i := 2) (oi := { dst := some 34, op := Op.move (Operand.tmp 9), type := 3, pos := "ref.go:61", after := #[], guard := none }) (v := ?_) rfl (by kernel_rfl) (by kernel_rfl) (by kernel_rfl) (fun _ _ _ h => h) (Or.inl ⟨by rfl, ?hy⟩) (by assumption) ?_
            case hy => (intro w hSw; (try dsimp only at hSw); go_simp; first | done | with_reducible rfl)
            try simp only [Act.put, List.setIfInBounds_toArray, List.set_cons_zero, List.set_cons_succ]
            refine wpAnyH_take (i := 3) (oi := { dst := some 35, op := Op.move (Operand.tmp 8), type := 3, pos := "ref.go:61", after := #[], guard := none }) (v := ?_) rfl (by kernel_rfl) (by kernel_rfl) (by kernel_rfl) (fun _ _ _ h => h) (Or.inl ⟨by rfl, ?hy⟩) (by assumption) ?_
            case hy => (intro w hSw; (try dsimp only at hSw); go_simp; first | done | with_reducible rfl)
            try simp only [Act.put, List.setIfInBounds_toArray, List.set_cons_zero, List.set_cons_succ]
            refine wpAnyH_take (i := 5) (oi := { dst := some 37, op := Op.load 26 (Operand.tmp 4), type := 26, pos := "ref.go:61", after := #[], guard := none }) (v := ?_) rfl (by kernel_rfl) (by kernel_rfl) (by kernel_rfl) (fun _ _ _ h => h) (Or.inl ⟨by rfl, ?hy⟩) (by assumption) ?_
            case hy => (intro w hSw; (try dsimp only at hSw); go_simp; first | done | with_reducible rfl)
            try simp only [Act.put, List.setIfInBounds_toArray, List.set_cons_zero, List.set_cons_succ]
            refine wpAnyH_take (i := 6) (oi := { dst := some 38, op := Op.move (Operand.tmp 9), type := 3, pos := "ref.go:61", after := #[], guard := none }) (v := ?_) rfl (by kernel_rfl) (by kernel_rfl) (by kernel_rfl) (fun _ _ _ h => h) (Or.inl ⟨by rfl, ?hy⟩) (by assumption) ?_
            case hy => (intro w hSw; (try dsimp only at hSw); go_simp; first | done | with_reducible rfl)
            try simp only [Act.put, List.setIfInBounds_toArray, List.set_cons_zero, List.set_cons_succ]
            refine wpAnyH_take (i := 7) (oi := { dst := some 39, op := Op.move (Operand.tmp 8), type := 3, pos := "ref.go:61", after := #[], guard := none }) (v := ?_) rfl (by kernel_rfl) (by kernel_rfl) (by kernel_rfl) (fun _ _ _ h => h) (Or.inl ⟨by rfl, ?hy⟩) (by assumption) ?_
            case hy => (intro w hSw; (try dsimp only at hSw); go_simp; first | done | with_reducible rfl)
            try simp only [Act.put, List.setIfInBounds_toArray, List.set_cons_zero, List.set_cons_succ]
            refine wpAnyH_ready (rs := [0, 4]) (by kernel_rfl) (by simp) ?_
            refine AllReadyH.cons (o := { dst := some 32, op := Op.load 26 (Operand.tmp 7), type := 26, pos := "ref.go:61", after := #[], guard := none }) rfl (fun K hK => ?_) (AllReadyH.cons (o := { dst := some 36, op := Op.call { callee := Callee.value (Operand.func 32), args := #[Operand.tmp 33, Operand.tmp 34, Operand.tmp 35], argTypes := #[26, 3, 3] }, type := 28, pos := "ref.go:61", after := #[{ on := 1, ground := Ground.data }, { on := 2, ground := Ground.data }, { on := 3, ground := Ground.data }], guard := none }) rfl (fun K hK => ?_) AllReadyH.nil)
            · go_simp
              refine hK.out _ _ ?_ (fun hHeld => ?_)
              · exact hS
              clear hK K
              try simp only [Act.put, List.setIfInBounds_toArray, List.set_cons_zero, List.set_cons_succ]
              refine wpAnyH_ready (rs := [4]) (by kernel_rfl) (by simp) ?_
              refine AllReadyH.cons (o := { dst := some 36, op := Op.call { callee := Callee.value (Operand.func 32), args := #[Operand.tmp 33, Operand.tmp 34, Operand.tmp 35], argTypes := #[26, 3, 3] }, type := 28, pos := "ref.go:61", after := #[{ on := 1, ground := Ground.data }, { on := 2, ground := Ground.data }, { on := 3, ground := Ground.data }], guard := none }) rfl (fun K hK => ?_) AllReadyH.nil
              go_simp
              (go_at_call 32; with_reducible refine Calls.mono (refAt_any A ao n m g off f x y _ HH.out.2.1 HN.out.1.1 HN.out.2.1 HN.out.2.2 HVa.out) ?_; rintro e w2 ⟨rfl, hb2⟩; rw [HPQ.out.1]; have HG2 := hid (HG1.out.below hb2); have HV2 := hid (HVb.out.below hb2); replace hS := O10_below hS hb2; clear hb2; (try clear o0 o1 o2 o3 o4 of4); obtain ⟨o0, o1, o2, o3, o4, of4⟩ := HG2.out.o)
              go_wp2_with fail
              refine hK.out _ _ ?_ (fun hHeld => ?_)
              · exact hS
              clear hK K
              try simp only [Act.put, List.setIfInBounds_toArray, List.set_cons_zero, List.set_cons_succ]
              refine wpAnyH_ready (rs := [8]) (by kernel_rfl) (by simp) ?_
              refine AllReadyH.cons (o := { dst := some 40, op := Op.call { callee := Callee.value (Operand.func 32), args := #[Operand.tmp 37, Operand.tmp 38, Operand.tmp 39], argTypes := #[26, 3, 3] }, type := 28, pos := "ref.go:61", after := #[{ on := 5, ground := Ground.data }, { on := 6, ground := Ground.data }, { on := 7, ground := Ground.data }, { on := 4, ground := Ground.chain }], guard := none }) rfl (fun K hK => ?_) AllReadyH.nil
              go_simp
              (go_at_call 32; with_reducible refine Calls.mono (refAt_any B bo bn bm bg boff h x y _ HH.out.2.2.2.1 HN.out.1.2 HN.out.2.1 HN.out.2.2 HV2.out) ?_; rintro e w3 ⟨rfl, hb3⟩; rw [HPQ.out.2.1]; have HG3 := hid (HG2.out.below hb3); replace hS := O10_below hS hb3; clear hb3; (try clear o0 o1 o2 o3 o4 of4); obtain ⟨o0, o1, o2, o3, o4, of4⟩ := HG3.out.o)
              go_wp2_with fail
              refine hK.out _ _ ?_ (fun hHeld => ?_)
              · exact hS
              clear hK K
              try simp only [Act.put, List.setIfInBounds_toArray, List.set_cons_zero, List.set_cons_succ]
              refine wpAnyH_ready (rs := [9]) (by kernel_rfl) (by simp) ?_
              refine AllReadyH.cons (o := { dst := some 41, op := Op.call { callee := Callee.value (Operand.func 80), args := #[Operand.const (Value.int IntKind.i64 0), Operand.tmp 36, Operand.tmp 40], argTypes := #[3, 28, 28] }, type := 28, pos := "ref.go:61", after := #[{ on := 4, ground := Ground.data }, { on := 8, ground := Ground.data }, { on := 8, ground := Ground.chain }], guard := none }) rfl (fun K hK => ?_) AllReadyH.nil
              go_simp
              (go_at_call 80; with_reducible refine Calls.mono (refOver4 p.c0 p.c1 p.c2 p.c3 q.c0 q.c1 q.c2 q.c3 _ HBY.out.1 HBY.out.2) ?_; rintro e w4 ⟨rfl, hb4⟩; rw [HPQ.out.2.2]; have HG4 := hid (HG3.out.below hb4); have hlo4 : w.heap.size + 1 + 1 + 1 + 1 + 1 ≤ w4.heap.size := (by have := HG4.out.lt; omega); replace hS := O10_below hS hb4; clear hb4; (try clear o0 o1 o2 o3 o4 of4); obtain ⟨o0, o1, o2, o3, o4, of4⟩ := HG4.out.o)
              go_wp2_with fail
              refine hK.out _ _ ?_ (fun hHeld => ?_)
              · exact hS
              clear hK K
              try simp only [Act.put, List.setIfInBounds_toArray, List.set_cons_zero, List.set_cons_succ]
              refine wpAnyH_ready (rs := [10]) (by kernel_rfl) (by simp) ?_
              refine AllReadyH.cons (o := { dst := some 42, op := Op.call { callee := Callee.value (Operand.func 47), args := #[Operand.tmp 32, Operand.tmp 41], argTypes := #[26, 28] }, type := 26, pos := "ref.go:61", after := #[{ on := 0, ground := Ground.data }, { on := 9, ground := Ground.data }, { on := 9, ground := Ground.chain }], guard := none }) rfl (fun K hK => ?_) AllReadyH.nil
              go_simp
              (go_at_call 47; with_reducible refine Calls.mono (with4 (w.heap.size + 1 + 1 + 1 + 1 + 1) D oo on om og ooff ((img D G).take (posN D x y)) (G x y).c0 (G x y).c1 (G x y).c2 (G x y).c3 _ HG4.out.x hlo4 hon) ?_; rintro e w5 hr; obtain ⟨oo', om', og', ooff', rfl, hO5, hB5, hK5⟩ := retA hr; have H5 := hid (HG4.out.o.block (hB5.block (w.heap.size + 1 + 1 + 1 + 1) (Nat.lt_succ_self _))); have HW5 := hid (HX.out.1.low (HG4.out.low.trans (hB5.mono (Nat.le_succ _))) HLO.out); have HG5 := hid (HG4.out.next hO5 hB5 H5.out); clear hr hO5 hB5 hK5; (try clear o0 o1 o2 o3 o4 of4); obtain ⟨o0, o1, o2, o3, o4, of4⟩ := H5.out; replace hS : O10 w.heap.size A B (.slice ao n m) (.slice bo bn bm) w5 := ⟨HW5.out.a.c0, HW5.out.a.c1, HW5.out.a.c2, HW5.out.a.c3, HW5.out.a.c4, HW5.out.b.c0, HW5.out.b.c1, HW5.out.b.c2, HW5.out.b.c3, HW5.out.b.c4⟩)
              go_wp2_with fail
              refine hK.out _ _ ?_ (fun hHeld => ?_)
              · exact hS
              clear hK K
              try simp only [Act.put, List.setIfInBounds_toArray, List.set_cons_zero, List.set_cons_succ]
              refine wpAnyH_ready (rs := [11]) (by kernel_rfl) (by simp) ?_
              refine AllReadyH.cons (o := { dst := none, op := Op.store 26 (Operand.tmp 7) (Operand.tmp 42), type := 0, pos := "ref.go:61", after := #[{ on := 10, ground := Ground.data }, { on := 10, ground := Ground.chain }, { on := 0, ground := Ground.phase }, { on := 1, ground := Ground.phase }, { on := 2, ground := Ground.phase }, { on := 3, ground := Ground.phase }, { on := 4, ground := Ground.phase }, { on := 5, ground := Ground.phase }, { on := 6, ground := Ground.phase }, { on := 7, ground := Ground.phase }, { on := 8, ground := Ground.phase }, { on := 9, ground := Ground.phase }, { on := 10, ground := Ground.phase }], guard := none }) rfl (fun K hK => ?_) AllReadyH.nil
              go_simp
              refine hK.out _ _ ?_ (fun hHeld => ?_)
              · exact O10_set5 hS (by omega) (by omega)
              clear hK K
              try simp only [Act.put, List.setIfInBounds_toArray, List.set_cons_zero, List.set_cons_succ]
              refine wpAnyH_done (by kernel_rfl) ?_ _
              go_wp2
              go_roundg (D.x1 - (x + 1)).toNat
              case measure => omega
              case rel =>
                refine ⟨x + 1, oo', on + 1, om', og', ooff', by omega, by omega, rfl, rfl, ?_⟩
                have h9 := HG5.out
                rw [show (⟨(G x y).c0, (G x y).c1, (G x y).c2, (G x y).c3⟩ : X) = G x y from rfl, take_more G HBX.out, ← pos_next D hx0] at h9
                exact h9
            · go_simp
              (go_at_call 32; with_reducible refine Calls.mono (refAt_any A ao n m g off f x y _ HH.out.2.1 HN.out.1.1 HN.out.2.1 HN.out.2.2 HVa.out) ?_; rintro e w2 ⟨rfl, hb2⟩; rw [HPQ.out.1]; have HG2 := hid (HG1.out.below hb2); have HV2 := hid (HVb.out.below hb2); replace hS := O10_below hS hb2; clear hb2; (try clear o0 o1 o2 o3 o4 of4); obtain ⟨o0, o1, o2, o3, o4, of4⟩ := HG2.out.o)
              go_wp2_with fail
              refine hK.out _ _ ?_ (fun hHeld => ?_)
              · exact hS
              clear hK K
              try simp only [Act.put, List.setIfInBounds_toArray, List.set_cons_zero, List.set_cons_succ]
              refine wpAnyH_ready (rs := [0, 8]) (by kernel_rfl) (by simp) ?_
              refine AllReadyH.cons (o := { dst := some 32, op := Op.load 26 (Operand.tmp 7), type := 26, pos := "ref.go:61", after := #[], guard := none }) rfl (fun K hK => ?_) (AllReadyH.cons (o := { dst := some 40, op := Op.call { callee := Callee.value (Operand.func 32), args := #[Operand.tmp 37, Operand.tmp 38, Operand.tmp 39], argTypes := #[26, 3, 3] }, type := 28, pos := "ref.go:61", after := #[{ on := 5, ground := Ground.data }, { on := 6, ground := Ground.data }, { on := 7, ground := Ground.data }, { on := 4, ground := Ground.chain }], guard := none }) rfl (fun K hK => ?_) AllReadyH.nil)
              · go_simp
                refine hK.out _ _ ?_ (fun hHeld => ?_)
                · exact hS
                clear hK K
                try simp only [Act.put, List.setIfInBounds_toArray, List.set_cons_zero, List.set_cons_succ]
                refine wpAnyH_ready (rs := [8]) (by kernel_rfl) (by simp) ?_
                refine AllReadyH.cons (o := { dst := some 40, op := Op.call { callee := Callee.value (Operand.func 32), args := #[Operand.tmp 37, Operand.tmp 38, Operand.tmp 39], argTypes := #[26, 3, 3] }, type := 28, pos := "ref.go:61", after := #[{ on := 5, ground := Ground.data }, { on := 6, ground := Ground.data }, { on := 7, ground := Ground.data }, { on := 4, ground := Ground.chain }], guard := none }) rfl (fun K hK => ?_) AllReadyH.nil
                go_simp
                (go_at_call 32; with_reducible refine Calls.mono (refAt_any B bo bn bm bg boff h x y _ HH.out.2.2.2.1 HN.out.1.2 HN.out.2.1 HN.out.2.2 HV2.out) ?_; rintro e w3 ⟨rfl, hb3⟩; rw [HPQ.out.2.1]; have HG3 := hid (HG2.out.below hb3); replace hS := O10_below hS hb3; clear hb3; (try clear o0 o1 o2 o3 o4 of4); obtain ⟨o0, o1, o2, o3, o4, of4⟩ := HG3.out.o)
                go_wp2_with fail
                refine hK.out _ _ ?_ (fun hHeld => ?_)
                · exact hS
                clear hK K
                try simp only [Act.put, List.setIfInBounds_toArray, List.set_cons_zero, List.set_cons_succ]
                refine wpAnyH_ready (rs := [9]) (by kernel_rfl) (by simp) ?_
                refine AllReadyH.cons (o := { dst := some 41, op := Op.call { callee := Callee.value (Operand.func 80), args := #[Operand.const (Value.int IntKind.i64 0), Operand.tmp 36, Operand.tmp 40], argTypes := #[3, 28, 28] }, type := 28, pos := "ref.go:61", after := #[{ on := 4, ground := Ground.data }, { on := 8, ground := Ground.data }, { on := 8, ground := Ground.chain }], guard := none }) rfl (fun K hK => ?_) AllReadyH.nil
                go_simp
                (go_at_call 80; with_reducible refine Calls.mono (refOver4 p.c0 p.c1 p.c2 p.c3 q.c0 q.c1 q.c2 q.c3 _ HBY.out.1 HBY.out.2) ?_; rintro e w4 ⟨rfl, hb4⟩; rw [HPQ.out.2.2]; have HG4 := hid (HG3.out.below hb4); have hlo4 : w.heap.size + 1 + 1 + 1 + 1 + 1 ≤ w4.heap.size := (by have := HG4.out.lt; omega); replace hS := O10_below hS hb4; clear hb4; (try clear o0 o1 o2 o3 o4 of4); obtain ⟨o0, o1, o2, o3, o4, of4⟩ := HG4.out.o)
                go_wp2_with fail
                refine hK.out _ _ ?_ (fun hHeld => ?_)
                · exact hS
                clear hK K
                try simp only [Act.put, List.setIfInBounds_toArray, List.set_cons_zero, List.set_cons_succ]
                refine wpAnyH_ready (rs := [10]) (by kernel_rfl) (by simp) ?_
                refine AllReadyH.cons (o := { dst := some 42, op := Op.call { callee := Callee.value (Operand.func 47), args := #[Operand.tmp 32, Operand.tmp 41], argTypes := #[26, 28] }, type := 26, pos := "ref.go:61", after := #[{ on := 0, ground := Ground.data }, { on := 9, ground := Ground.data }, { on := 9, ground := Ground.chain }], guard := none }) rfl (fun K hK => ?_) AllReadyH.nil
                go_simp
                (go_at_call 47; with_reducible refine Calls.mono (with4 (w.heap.size + 1 + 1 + 1 + 1 + 1) D oo on om og ooff ((img D G).take (posN D x y)) (G x y).c0 (G x y).c1 (G x y).c2 (G x y).c3 _ HG4.out.x hlo4 hon) ?_; rintro e w5 hr; obtain ⟨oo', om', og', ooff', rfl, hO5, hB5, hK5⟩ := retA hr; have H5 := hid (HG4.out.o.block (hB5.block (w.heap.size + 1 + 1 + 1 + 1) (Nat.lt_succ_self _))); have HW5 := hid (HX.out.1.low (HG4.out.low.trans (hB5.mono (Nat.le_succ _))) HLO.out); have HG5 := hid (HG4.out.next hO5 hB5 H5.out); clear hr hO5 hB5 hK5; (try clear o0 o1 o2 o3 o4 of4); obtain ⟨o0, o1, o2, o3, o4, of4⟩ := H5.out; replace hS : O10 w.heap.size A B (.slice ao n m) (.slice bo bn bm) w5 := ⟨HW5.out.a.c0, HW5.out.a.c1, HW5.out.a.c2, HW5.out.a.c3, HW5.out.a.c4, HW5.out.b.c0, HW5.out.b.c1, HW5.out.b.c2, HW5.out.b.c3, HW5.out.b.c4⟩)
                go_wp2_with fail
                refine hK.out _ _ ?_ (fun hHeld => ?_)
                · exact hS
                clear hK K
                try simp only [Act.put, List.setIfInBounds_toArray, List.set_cons_zero, List.set_cons_succ]
                refine wpAnyH_ready (rs := [11]) (by kernel_rfl) (by simp) ?_
                refine AllReadyH.cons (o := { dst := none, op := Op.store 26 (Operand.tmp 7) (Operand.tmp 42), type := 0, pos := "ref.go:61", after := #[{ on := 10, ground := Ground.data }, { on := 10, ground := Ground.chain }, { on := 0, ground := Ground.phase }, { on := 1, ground := Ground.phase }, { on := 2, ground := Ground.phase }, { on := 3, ground := Ground.phase }, { on := 4, ground := Ground.phase }, { on := 5, ground := Ground.phase }, { on := 6, ground := Ground.phase }, { on := 7, ground := Ground.phase }, { on := 8, ground := Ground.phase }, { on := 9, ground := Ground.phase }, { on := 10, ground := Ground.phase }], guard := none }) rfl (fun K hK => ?_) AllReadyH.nil
                go_simp
                refine hK.out _ _ ?_ (fun hHeld => ?_)
                · exact O10_set5 hS (by omega) (by omega)
                clear hK K
                try simp only [Act.put, List.setIfInBounds_toArray, List.set_cons_zero, List.set_cons_succ]
                refine wpAnyH_done (by kernel_rfl) ?_ _
                go_wp2
                go_roundg (D.x1 - (x + 1)).toNat
                case measure => omega
                case rel =>
                  refine ⟨x + 1, oo', on + 1, om', og', ooff', by omega, by omega, rfl, rfl, ?_⟩
                  have h9 := HG5.out
                  rw [show (⟨(G x y).c0, (G x y).c1, (G x y).c2, (G x y).c3⟩ : X) = G x y from rfl, take_more G HBX.out, ← pos_next D hx0] at h9
                  exact h9
              · go_simp
                (go_at_call 32; with_reducible refine Calls.mono (refAt_any B bo bn bm bg boff h x y _ HH.out.2.2.2.1 HN.out.1.2 HN.out.2.1 HN.out.2.2 HV2.out) ?_; rintro e w3 ⟨rfl, hb3⟩; rw [HPQ.out.2.1]; have HG3 := hid (HG2.out.below hb3); replace hS := O10_below hS hb3; clear hb3; (try clear o0 o1 o2 o3 o4 of4); obtain ⟨o0, o1, o2, o3, o4, of4⟩ := HG3.out.o)
                go_wp2_with fail
                refine hK.out _ _ ?_ (fun hHeld => ?_)
                · exact hS
                clear hK K
                try simp only [Act.put, List.setIfInBounds_toArray, List.set_cons_zero, List.set_cons_succ]
                refine wpAnyH_ready (rs := [0, 9]) (by kernel_rfl) (by simp) ?_
                refine AllReadyH.cons (o := { dst := some 32, op := Op.load 26 (Operand.tmp 7), type := 26, pos := "ref.go:61", after := #[], guard := none }) rfl (fun K hK => ?_) (AllReadyH.cons (o := { dst := some 41, op := Op.call { callee := Callee.value (Operand.func 80), args := #[Operand.const (Value.int IntKind.i64 0), Operand.tmp 36, Operand.tmp 40], argTypes := #[3, 28, 28] }, type := 28, pos := "ref.go:61", after := #[{ on := 4, ground := Ground.data }, { on := 8, ground := Ground.data }, { on := 8, ground := Ground.chain }], guard := none }) rfl (fun K hK => ?_) AllReadyH.nil)
                · go_simp
                  refine hK.out _ _ ?_ (fun hHeld => ?_)
                  · exact hS
                  clear hK K
                  try simp only [Act.put, List.setIfInBounds_toArray, List.set_cons_zero, List.set_cons_succ]
                  refine wpAnyH_ready (rs := [9]) (by kernel_rfl) (by simp) ?_
                  refine AllReadyH.cons (o := { dst := some 41, op := Op.call { callee := Callee.value (Operand.func 80), args := #[Operand.const (Value.int IntKind.i64 0), Operand.tmp 36, Operand.tmp 40], argTypes := #[3, 28, 28] }, type := 28, pos := "ref.go:61", after := #[{ on := 4, ground := Ground.data }, { on := 8, ground := Ground.data }, { on := 8, ground := Ground.chain }], guard := none }) rfl (fun K hK => ?_) AllReadyH.nil
                  go_simp
                  (go_at_call 80; with_reducible refine Calls.mono (refOver4 p.c0 p.c1 p.c2 p.c3 q.c0 q.c1 q.c2 q.c3 _ HBY.out.1 HBY.out.2) ?_; rintro e w4 ⟨rfl, hb4⟩; rw [HPQ.out.2.2]; have HG4 := hid (HG3.out.below hb4); have hlo4 : w.heap.size + 1 + 1 + 1 + 1 + 1 ≤ w4.heap.size := (by have := HG4.out.lt; omega); replace hS := O10_below hS hb4; clear hb4; (try clear o0 o1 o2 o3 o4 of4); obtain ⟨o0, o1, o2, o3, o4, of4⟩ := HG4.out.o)
                  go_wp2_with fail
                  refine hK.out _ _ ?_ (fun hHeld => ?_)
                  · exact hS
                  clear hK K
                  try simp only [Act.put, List.setIfInBounds_toArray, List.set_cons_zero, List.set_cons_succ]
                  refine wpAnyH_ready (rs := [10]) (by kernel_rfl) (by simp) ?_
                  refine AllReadyH.cons (o := { dst := some 42, op := Op.call { callee := Callee.value (Operand.func 47), args := #[Operand.tmp 32, Operand.tmp 41], argTypes := #[26, 28] }, type := 26, pos := "ref.go:61", after := #[{ on := 0, ground := Ground.data }, { on := 9, ground := Ground.data }, { on := 9, ground := Ground.chain }], guard := none }) rfl (fun K hK => ?_) AllReadyH.nil
                  go_simp
                  (go_at_call 47; with_reducible refine Calls.mono (with4 (w.heap.size + 1 + 1 + 1 + 1 + 1) D oo on om og ooff ((img D G).take (posN D x y)) (G x y).c0 (G x y).c1 (G x y).c2 (G x y).c3 _ HG4.out.x hlo4 hon) ?_; rintro e w5 hr; obtain ⟨oo', om', og', ooff', rfl, hO5, hB5, hK5⟩ := retA hr; have H5 := hid (HG4.out.o.block (hB5.block (w.heap.size + 1 + 1 + 1 + 1) (Nat.lt_succ_self _))); have HW5 := hid (HX.out.1.low (HG4.out.low.trans (hB5.mono (Nat.le_succ _))) HLO.out); have HG5 := hid (HG4.out.next hO5 hB5 H5.out); clear hr hO5 hB5 hK5; (try clear o0 o1 o2 o3 o4 of4); obtain ⟨o0, o1, o2, o3, o4, of4⟩ := H5.out; replace hS : O10 w.heap.size A B (.slice ao n m) (.slice bo bn bm) w5 := ⟨HW5.out.a.c0, HW5.out.a.c1, HW5.out.a.c2, HW5.out.a.c3, HW5.out.a.c4, HW5.out.b.c0, HW5.out.b.c1, HW5.out.b.c2, HW5.out.b.c3, HW5.out.b.c4⟩)
                  go_wp2_with fail
                  refine hK.out _ _ ?_ (fun hHeld => ?_)
                  · exact hS
                  clear hK K
                  try simp only [Act.put, List.setIfInBounds_toArray, List.set_cons_zero, List.set_cons_succ]
                  refine wpAnyH_ready (rs := [11]) (by kernel_rfl) (by simp) ?_
                  refine AllReadyH.cons (o := { dst := none, op := Op.store 26 (Operand.tmp 7) (Operand.tmp 42), type := 0, pos := "ref.go:61", after := #[{ on := 10, ground := Ground.data }, { on := 10, ground := Ground.chain }, { on := 0, ground := Ground.phase }, { on := 1, ground := Ground.phase }, { on := 2, ground := Ground.phase }, { on := 3, ground := Ground.phase }, { on := 4, ground := Ground.phase }, { on := 5, ground := Ground.phase }, { on := 6, ground := Ground.phase }, { on := 7, ground := Ground.phase }, { on := 8, ground := Ground.phase }, { on := 9, ground := Ground.phase }, { on := 10, ground := Ground.phase }], guard := none }) rfl (fun K hK => ?_) AllReadyH.nil
                  go_simp
                  refine hK.out _ _ ?_ (fun hHeld => ?_)
                  · exact O10_set5 hS (by omega) (by omega)
                  clear hK K
                  try simp only [Act.put, List.setIfInBounds_toArray, List.set_cons_zero, List.set_cons_succ]
                  refine wpAnyH_done (by kernel_rfl) ?_ _
                  go_wp2
                  go_roundg (D.x1 - (x + 1)).toNat
                  case measure => omega
                  case rel =>
                    refine ⟨x + 1, oo', on + 1, om', og', ooff', by omega, by omega, rfl, rfl, ?_⟩
                    have h9 := HG5.out
                    rw [show (⟨(G x y).c0, (G x y).c1, (G x y).c2, (G x y).c3⟩ : X) = G x y from rfl, take_more G HBX.out, ← pos_next D hx0] at h9
                    exact h9
                · go_simp
                  (go_at_call 80; with_reducible refine Calls.mono (refOver4 p.c0 p.c1 p.c2 p.c3 q.c0 q.c1 q.c2 q.c3 _ HBY.out.1 HBY.out.2) ?_; rintro e w4 ⟨rfl, hb4⟩; rw [HPQ.out.2.2]; have HG4 := hid (HG3.out.below hb4); have hlo4 : w.heap.size + 1 + 1 + 1 + 1 + 1 ≤ w4.heap.size := (by have := HG4.out.lt; omega); replace hS := O10_below hS hb4; clear hb4; (try clear o0 o1 o2 o3 o4 of4); obtain ⟨o0, o1, o2, o3, o4, of4⟩ := HG4.out.o)
                  go_wp2_with fail
                  refine hK.out _ _ ?_ (fun hHeld => ?_)
                  · exact hS
                  clear hK K
                  try simp only [Act.put, List.setIfInBounds_toArray, List.set_cons_zero, List.set_cons_succ]
                  refine wpAnyH_ready (rs := [0]) (by kernel_rfl) (by simp) ?_
                  refine AllReadyH.cons (o := { dst := some 32, op := Op.load 26 (Operand.tmp 7), type := 26, pos := "ref.go:61", after := #[], guard := none }) rfl (fun K hK => ?_) AllReadyH.nil
                  go_simp
                  refine hK.out _ _ ?_ (fun hHeld => ?_)
                  · exact hS
                  clear hK K
                  try simp only [Act.put, List.setIfInBounds_toArray, List.set_cons_zero, List.set_cons_succ]
                  refine wpAnyH_ready (rs := [10]) (by kernel_rfl) (by simp) ?_
                  refine AllReadyH.cons (o := { dst := some 42, op := Op.call { callee := Callee.value (Operand.func 47), args := #[Operand.tmp 32, Operand.tmp 41], argTypes := #[26, 28] }, type := 26, pos := "ref.go:61", after := #[{ on := 0, ground := Ground.data }, { on := 9, ground := Ground.data }, { on := 9, ground := Ground.chain }], guard := none }) rfl (fun K hK => ?_) AllReadyH.nil
                  go_simp
                  (go_at_call 47; with_reducible refine Calls.mono (with4 (w.heap.size + 1 + 1 + 1 + 1 + 1) D oo on om og ooff ((img D G).take (posN D x y)) (G x y).c0 (G x y).c1 (G x y).c2 (G x y).c3 _ HG4.out.x hlo4 hon) ?_; rintro e w5 hr; obtain ⟨oo', om', og', ooff', rfl, hO5, hB5, hK5⟩ := retA hr; have H5 := hid (HG4.out.o.block (hB5.block (w.heap.size + 1 + 1 + 1 + 1) (Nat.lt_succ_self _))); have HW5 := hid (HX.out.1.low (HG4.out.low.trans (hB5.mono (Nat.le_succ _))) HLO.out); have HG5 := hid (HG4.out.next hO5 hB5 H5.out); clear hr hO5 hB5 hK5; (try clear o0 o1 o2 o3 o4 of4); obtain ⟨o0, o1, o2, o3, o4, of4⟩ := H5.out; replace hS : O10 w.heap.size A B (.slice ao n m) (.slice bo bn bm) w5 := ⟨HW5.out.a.c0, HW5.out.a.c1, HW5.out.a.c2, HW5.out.a.c3, HW5.out.a.c4, HW5.out.b.c0, HW5.out.b.c1, HW5.out.b.c2, HW5.out.b.c3, HW5.out.b.c4⟩)
                  go_wp2_with fail
                  refine hK.out _ _ ?_ (fun hHeld => ?_)
                  · exact hS
                  clear hK K
                  try simp only [Act.put, List.setIfInBounds_toArray, List.set_cons_zero, List.set_cons_succ]
                  refine wpAnyH_ready (rs := [11]) (by kernel_rfl) (by simp) ?_
                  refine AllReadyH.cons (o := { dst := none, op := Op.store 26 (Operand.tmp 7) (Operand.tmp 42), type := 0, pos := "ref.go:61", after := #[{ on := 10, ground := Ground.data }, { on := 10, ground := Ground.chain }, { on := 0, ground := Ground.phase }, { on := 1, ground := Ground.phase }, { on := 2, ground := Ground.phase }, { on := 3, ground := Ground.phase }, { on := 4, ground := Ground.phase }, { on := 5, ground := Ground.phase }, { on := 6, ground := Ground.phase }, { on := 7, ground := Ground.phase }, { on := 8, ground := Ground.phase }, { on := 9, ground := Ground.phase }, { on := 10, ground := Ground.phase }], guard := none }) rfl (fun K hK => ?_) AllReadyH.nil
                  go_simp
                  refine hK.out _ _ ?_ (fun hHeld => ?_)
                  · exact O10_set5 hS (by omega) (by omega)
                  clear hK K
                  try simp only [Act.put, List.setIfInBounds_toArray, List.set_cons_zero, List.set_cons_succ]
                  refine wpAnyH_done (by kernel_rfl) ?_ _
                  go_wp2
                  go_roundg (D.x1 - (x + 1)).toNat
                  case measure => omega
                  case rel =>
                    refine ⟨x + 1, oo', on + 1, om', og', ooff', by omega, by omega, rfl, rfl, ?_⟩
                    have h9 := HG5.out
                    rw [show (⟨(G x y).c0, (G x y).c1, (G x y).c2, (G x y).c3⟩ : X) = G x y from rfl, take_more G HBX.out, ← pos_next D hx0] at h9
                    exact h9

          · obtain rfl : D.x1 = x := by omega
            clear hG
            go_wp2
            go_roundg (D.y1 - (y + 1)).toNat
            case measure => omega
            case rel => exact ⟨y + 1, oo, on, om, og, ooff, by omega, by omega, rfl, rfl, by rw [← pos_row D hy0 x01]; exact HG1.out⟩
      · obtain rfl : D.y1 = y := by omega
        obtain ⟨o0, o1, o2, o3, o4, of4⟩ := hG.o
        obtain ⟨z0, z1, z2, z3, z4, zf⟩ := (HX.out.1.low hG.low (by omega)).z
        clear hG
        go_wp2
        obtain ⟨s0, s1, s2, s3, s4⟩ := set5 z0 z1 z2 z3 z4 (.int .i64 D.x0) (.int .i64 D.y0) (.int .i64 D.x1) (.int .i64 D.y1) (.slice oo on om)
        refine bodyPost_ret (v := .agg #[.int .i64 D.x0, .int .i64 D.y0, .int .i64 D.x1, .int .i64 D.y1, .slice oo on om]) (by simp [results, Try.results60, go_sem, s0, s1, s2, s3, s4]) rfl ⟨⟨_, _, _, og, ooff, rfl, ?_⟩, ?_⟩
        · have hx := HG1.out.x
          rw [pos_last, List.take_of_length_le (by rw [img_len]; exact Nat.le_refl _)] at hx
          exact (hx.but (but_set5 _ _ _ _ _ _ _) (fun hc => by have := (hx.new hc).1; omega)).mono (by omega)
        · exact below_set5 (HX.out.2.1.trans (HG1.out.low.mono (by omega))) (by omega) _ _ _ _ _
  · rw [orN_yes he]
    have HE : Hid (empB ⟨D.x0, D.y0, D.x1, D.y1⟩ = true) := he
    clear hV hAo hBo hVb hf hh ha he hG hD
    go_enter Try.func60, Try.ntmps60
    go_wp2_with (go_at_call 15; with_reducible refine Calls.mono (Rc.refEmpty_any D.x0 D.y0 D.x1 D.y1 _) ?_; rintro e w1 ⟨rfl, hb1⟩; rw [HE.out]; have HW1 := hid (And.intro (HW.out.1.below hb1) (And.intro (HW.out.2.1.below hb1) (Rc.via HW.out.2.2 hb1))); clear hb1 d0 d1 d2 d3 df; obtain ⟨o0, o1, o2, o3, o4, of4⟩ := HW1.out.2.1; obtain ⟨z0, z1, z2, z3, z4, zf⟩ := HW1.out.1.z)
    obtain ⟨s0, s1, s2, s3, s4⟩ := set5 z0 z1 z2 z3 z4 (.int .i64 0) (.int .i64 0) (.int .i64 0) (.int .i64 0) (.slice none 0 0)
    refine bodyPost_ret (v := .agg #[.int .i64 0, .int .i64 0, .int .i64 0, .int .i64 0, .slice none 0 0]) (by simp [results, Try.results60, go_sem, s0, s1, s2, s3, s4]) rfl ⟨⟨_, _, _, 0, 0, rfl, oz_nil _ _ _ _⟩, ?_⟩
    exact below_set5 HW1.out.2.2 (by omega) _ _ _ _ _
end Go.Proofs.Ytfgfgfmimejpdaa
/- Merging buffers, by the code and by the document: contracts. -/
namespace Go.Proofs.Ytfgfgfmimejpdaa
open Num Go.ChangeShapes Go.WideShapes Go.ChangeAt Go.RowKit Go.Deep
set_option linter.unusedVariables false
set_option linter.unusedSimpArgs false

theorem open_bufs {H : Type} {enc : TypeId × Value → H} {W : World} {base : Nat} {v : Value} {d : DataW H} {p : List MemPlace}
    (hv : Value.okWide Try.prog W .any base 42 v) (h : DataW.Trod enc Try.prog W 0 (fun _ => true) true 42 v d p) : ∃ ao n c b off L, v = .slice ao n c ∧ Vb W ao n c b off L ∧ ∀ u, u ∈ L → ∀ q, q ∈ u.l → byteX q := by
  obtain ⟨a0, len, cap, rfl⟩ := okWide_slice Try.underlying42 hv
  obtain ⟨fuel, hf⟩ := h
  exact open_bufs' (by simpa [Value.cells] using hf)
theorem ox_pick {lo : Nat} {w : World} {ao : Option Addr} {n m g off : Nat} {l : List X} (h : Ox lo w ao n m g off l) (P : Nat → Prop) (hP : 0 < m → P g) (hf : ∀ k, w.heap.size ≤ k → P k) : ∃ g', Ox lo w ao n m g' off l ∧ P g' ∧ (0 < m → g' = g) := by
  rcases Nat.eq_zero_or_pos m with hm | hm
  · subst hm
    have h0 : n = 0 := by have := h.v.le; omega
    have hl : flat l = [] := List.length_eq_zero_iff.1 (by have := h.v.len; omega)
    refine ⟨w.heap.size, ⟨⟨h.v.len, h.v.le, h.v.max, fun hc => absurd hc (by omega), ?_⟩, fun hc => absurd hc (by omega), fun j hj => absurd hj (by omega)⟩, hf _ (Nat.le_refl _), fun hc => absurd hc (by omega)⟩
    rw [hl]
    exact lies_nil _ _ _
  · exact ⟨g, h, hP hm, fun _ => rfl⟩
theorem ox_back {lo : Nat} {w : World} {ao : Option Addr} {n m g g' off : Nat} {l : List X} (h : Ox lo w ao n m g' off l) (e : 0 < m → g' = g) : Ox lo w ao n m g off l := by
  rcases Nat.eq_zero_or_pos m with hm | hm
  · subst hm
    have hl : flat l = [] := List.length_eq_zero_iff.1 (by have := h.v.len; have := h.v.le; omega)
    refine ⟨⟨h.v.len, h.v.le, h.v.max, fun hc => absurd hc (by omega), ?_⟩, fun hc => absurd hc (by omega), fun j hj => absurd hj (by omega)⟩
    rw [hl]
    exact lies_nil _ _ _
  · exact e hm ▸ h
/-- buffers merged, in order -/
def mergeF (L : List Bv) (x y : Int) : X := L.foldl (fun q v => overX (atX v.B (unimg v.B v.l) x y) q) noX
theorem merge_next {L : List Bv} {i : Nat} {v : Bv} (h : L[i]? = some v) (x y : Int) : mergeF (L.take (i + 1)) x y = overX (atX v.B (unimg v.B v.l) x y) (mergeF (L.take i) x y) := by
  unfold mergeF
  rw [List.take_add_one, h, List.foldl_append]
  rfl
theorem merge_byte (L : List Bv) (x y : Int) : byteX (mergeF L x y) := by
  have key : ∀ (L : List Bv) (q : X), byteX q → byteX (L.foldl (fun q v => overX (atX v.B (unimg v.B v.l) x y) q) q) := by
    intro L
    induction L with
    | nil => exact fun q h => h
    | cons v L ih => exact fun q h => ih _ (over_byte _ _)
  exact key L noX byte_no
/-- a buffer of a list is right -/
structure Gb (v : Bv) : Prop where
  n5 : v.n ≤ 5000
  buf : bufB v.B v.n = true
  im : v.l = img v.B (unimg v.B v.l)
  byt : ∀ x y, byteX (unimg v.B v.l x y)
  ok : Ok v.B

/-- while buffers are merged by the code -/
structure Ms (w : World) (k4 k5 : Nat) (Q : R) (no : Option Addr) (nn nm ng noff : Nat) (F : Int → Int → X) (ao : Option Addr) (n c b off : Nat) (L : List Bv) (wr : World) : Prop where
  z : Has5 wr k4 ⟨0, 0, 0, 0⟩ none 0 0
  h : Has5 wr k5 Q no nn nm
  o : Ox w.heap.size wr no nn nm ng noff (img Q F)
  v : Vb wr ao n c b off L
  low : Below w.heap.size w wr
  lo : w.heap.size ≤ ng
  ne : 0 < nm → (k4 ≠ ng ∧ k5 ≠ ng) ∧ (0 < n → b ≠ ng) ∧ ∀ v, v ∈ L → 0 < v.n → v.g ≠ ng
section
variable {w : World} {k4 k5 : Nat} {Q : R} {no : Option Addr} {nn nm ng noff : Nat} {F : Int → Int → X} {ao : Option Addr} {n c b off : Nat} {L : List Bv} {wr wr' : World}
theorem Ms.below (x : Ms w k4 k5 Q no nn nm ng noff F ao n c b off L wr) (hb : Below wr.heap.size wr wr') : Ms w k4 k5 Q no nn nm ng noff F ao n c b off L wr' :=
  ⟨x.z.below hb, x.h.below hb, x.o.below hb, x.v.below hb, Rc.via x.low hb, x.lo, x.ne⟩
theorem Ms.pick (x : Ms w k4 k5 Q no nn nm ng noff F ao n c b off L wr) : ∃ gl, Ox w.heap.size wr no nn nm gl noff (img Q F) ∧ ((k4 ≠ gl ∧ k5 ≠ gl) ∧ (0 < n → b ≠ gl) ∧ (∀ v, v ∈ L → 0 < v.n → v.g ≠ gl) ∧ w.heap.size ≤ gl) ∧ (0 < nm → gl = ng) := by
  refine ox_pick x.o (fun gl => (k4 ≠ gl ∧ k5 ≠ gl) ∧ (0 < n → b ≠ gl) ∧ (∀ v, v ∈ L → 0 < v.n → v.g ≠ gl) ∧ w.heap.size ≤ gl) (fun hm => ⟨(x.ne hm).1, (x.ne hm).2.1, (x.ne hm).2.2, x.lo⟩) (fun k hk => ?_)
  have h1 := x.z.lt
  have h2 := x.h.lt
  refine ⟨⟨by omega, by omega⟩, fun hn => ?_, fun v hv hn => ?_, Nat.le_trans x.low.size hk⟩
  · have := x.v.z.lies.lt (by rw [flatB_len, vb_len x.v]; omega)
    omega
  · have := vx_lt (x.v.v v hv) hn
    omega
theorem Ms.to (x : Ms w k4 k5 Q no nn nm ng noff F ao n c b off L wr) {gl : Nat} (hg : ((k4 ≠ gl ∧ k5 ≠ gl) ∧ (0 < n → b ≠ gl) ∧ (∀ v, v ∈ L → 0 < v.n → v.g ≠ gl) ∧ w.heap.size ≤ gl) ∧ (0 < nm → gl = ng)) (hb : But gl wr wr') {l : List X} {F' : Int → Int → X} (ho : Ox w.heap.size wr' no nn nm gl noff l) (e : l = img Q F') : Ms w k4 k5 Q no nn nm ng noff F' ao n c b off L wr' :=
  ⟨x.z.but hb hg.1.1.1, x.h.but hb hg.1.1.2, e ▸ ox_back ho hg.2, vb_but x.v hb hg.1.2.1 hg.1.2.2.1, x.low.trans (hb.low hg.1.2.2.2 x.low.size), x.lo, x.ne⟩
end

set_option maxRecDepth 100000 in
set_option maxHeartbeats 4000000 in
theorem merge_any (ao : Option Addr) (n c b off : Nat) (L : List Bv) (D : R) (w : World) (hn : n ≤ 1000000) (h : Vb w ao n c b off L) (hg : ∀ v, v ∈ L → Gb v) (hD : Ok D) (ha : area D ≤ 5000) :
    Calls Try.prog 29 #[.slice ao n c, .agg #[.int .i64 D.x0, .int .i64 D.y0, .int .i64 D.x1, .int .i64 D.y1]] w fun e w' => RetB w.heap.size w' e (orN D) (img (orN D) (mergeF L)) ∧ Below w.heap.size w w' := by
  have hL := vb_len h
  have HA : Hid (Rc.Has4 (((w.alloc (.cells #[.int .i64 D.x0, .int .i64 D.y0, .int .i64 D.x1, .int .i64 D.y1] 23)).alloc (.cells #[.int .i64 0, .int .i64 0, .int .i64 0, .int .i64 0, .slice none 0 0] 26))) w.heap.size (.int .i64 D.x0) (.int .i64 D.y0) (.int .i64 D.x1) (.int .i64 D.y1) ∧ Has5 (((w.alloc (.cells #[.int .i64 D.x0, .int .i64 D.y0, .int .i64 D.x1, .int .i64 D.y1] 23)).alloc (.cells #[.int .i64 0, .int .i64 0, .int .i64 0, .int .i64 0, .slice none 0 0] 26))) (w.heap.size + 1) ⟨0, 0, 0, 0⟩ none 0 0 ∧ Below w.heap.size w (((w.alloc (.cells #[.int .i64 D.x0, .int .i64 D.y0, .int .i64 D.x1, .int .i64 D.y1] 23)).alloc (.cells #[.int .i64 0, .int .i64 0, .int .i64 0, .int .i64 0, .slice none 0 0] 26))) ∧ w.heap.size + 1 < (((w.alloc (.cells #[.int .i64 D.x0, .int .i64 D.y0, .int .i64 D.x1, .int .i64 D.y1] 23)).alloc (.cells #[.int .i64 0, .int .i64 0, .int .i64 0, .int .i64 0, .slice none 0 0] 26))).heap.size) := ⟨(Rc.Has4.new rfl _ _ _ _ _).alloc _, Has5.new (by simp) _ _ _ _ _ _ _ _, ((Below.refl _ _).alloc (Nat.le_refl _) _).alloc (by simp) _, by simp⟩
  obtain ⟨Q, hQ⟩ : ∃ Q, Q = orN D := ⟨_, rfl⟩
  have HQ := hid hQ
  have HU : Hid (bufB Q (wid Q * hei Q) = true ∧ wid Q * hei Q ≤ 5000) := by
    have := buf_new hD ha
    rw [hQ]
    exact ⟨this.1, this.2.1⟩
  have HH := hid (And.intro hD (And.intro ha (And.intro h hg)))
  rw [← hQ]
  clear hQ hD ha h hg
  obtain ⟨q0, q1, q2, q3, qf⟩ := HA.out.1
  go_enter Try.func29, Try.ntmps29
  go_wp2_with (go_at_call 36; with_reducible refine Calls.mono (new_any D.x0 D.y0 D.x1 D.y1 _ HH.out.1 HH.out.2.1) ?_; rintro e w1 ⟨hr, hb1⟩; rw [show orN ⟨D.x0, D.y0, D.x1, D.y1⟩ = Q from HQ.out.symm] at hr; obtain ⟨no, nn, nm, ng, noff, rfl, hO, hg1, hg0, hg2, hln⟩ := retK hr hb1.size; rw [img_len] at hln; have HLN := hid (And.intro hg1 (And.intro hg2 hln)); have HO1 := hid hO; have HB1 := hid hb1; clear hr hb1 hO hg1 hg2 hg0 hln q0 q1 q2 q3 qf)
  have HMS : Hid (Ms w (w.heap.size + 1) w1.heap.size Q no nn nm ng noff (mergeF (L.take 0)) ao n c b off L (w1.alloc (.cells #[.int .i64 Q.x0, .int .i64 Q.y0, .int .i64 Q.x1, .int .i64 Q.y1, .slice no nn nm] 26))) := by
    have ha1 : Below w1.heap.size w1 (w1.alloc (.cells #[.int .i64 Q.x0, .int .i64 Q.y0, .int .i64 Q.x1, .int .i64 Q.y1, .slice no nn nm] 26)) := (Below.refl _ _).alloc (Nat.le_refl _) _
    have hb1 := Rc.via HA.out.2.2.1 HB1.out
    have hz := HA.out.2.2.1.size
    have hz1 := HB1.out.size
    have hk := HA.out.2.2.2
    have hlo := HLN.out.1
    refine ⟨(HA.out.2.1.below HB1.out).below ha1, Has5.new rfl _ _ _ _ _ _ _ _, ?_, HH.out.2.2.1.below (Rc.via hb1 ha1), Rc.via hb1 ha1, Nat.le_trans hz hlo, fun hm => ⟨⟨by omega, ?_⟩, fun hn0 => ?_, fun v hv hv0 => ?_⟩⟩
    · exact (HO1.out.below ha1).mono hz
    · have := HLN.out.2.1 hm; omega
    · have := HH.out.2.2.1.z.lies.lt (by rw [flatB_len, hL]; omega)
      omega
    · have := vx_lt (HH.out.2.2.1.v v hv) hv0
      omega
  have HNN : Hid (nn ≤ 5000 ∧ bufB Q nn = true) := by rw [← HLN.out.2.2]; exact ⟨HU.out.2, HU.out.1⟩
  clear HA HO1 HB1 HLN
  generalize w1.alloc (.cells #[.int .i64 Q.x0, .int .i64 Q.y0, .int .i64 Q.x1, .int .i64 Q.y1, .slice no nn nm] 26) = w2 at HMS ⊢
  generalize w1.heap.size = k5 at HMS ⊢
  go_loopg [12] n (fun gh v12 wr => ∃ i : Nat, i ≤ n ∧ gh = n - i ∧ v12 = .int .i64 (i : Int) ∧ Ms w (w.heap.size + 1) k5 Q no nn nm ng noff (mergeF (L.take i)) ao n c b off L wr)
  case atStart => exact ⟨0, Nat.zero_le _, rfl, rfl, HMS.out⟩
  case round =>
    clear HMS
    obtain ⟨i, hi, rfl, rfl, hM⟩ := hrel
    have HM := hid hM
    obtain ⟨p0, p1, p2, p3, p4, pf⟩ := hM.h
    by_cases hil : i < n
    · have hiz : (i : Int) < (n : Int) := by omega
      obtain ⟨v, hv⟩ : ∃ v, L[i]? = some v := ⟨_, List.getElem?_eq_getElem (by omega)⟩
      obtain ⟨rfl, ⟨e0, e1, e2, e3, e4⟩, hVv⟩ := vb_at hM.v hv
      have HV := hid hv
      have hGv := HH.out.2.2.2 v (List.mem_of_getElem? hv)
      have HGv := hid hGv
      have hl5 : k5 < wr.heap.size := hM.h.lt
      obtain ⟨gl, hOl, hgl⟩ := (hM.below ((Below.refl _ _).alloc (Nat.le_refl _) (.cells #[.int .i64 v.B.x0, .int .i64 v.B.y0, .int .i64 v.B.x1, .int .i64 v.B.y1, .slice v.ao v.n v.m] 26))).pick
      have HOL := hid hOl
      have HGL := hid hgl
      have HVX : Hid (Vx (wr.alloc (.cells #[.int .i64 v.B.x0, .int .i64 v.B.y0, .int .i64 v.B.x1, .int .i64 v.B.y1, .slice v.ao v.n v.m] 26)) v.ao v.n v.m v.g v.off (img v.B (unimg v.B v.l))) := by rw [← hGv.im]; exact hVv.below ((Below.refl _ _).alloc (Nat.le_refl _) _)
      have HM1 := hid (hM.below ((Below.refl _ _).alloc (Nat.le_refl _) (.cells #[.int .i64 v.B.x0, .int .i64 v.B.y0, .int .i64 v.B.x1, .int .i64 v.B.y1, .slice v.ao v.n v.m] 26)))
      have HNE : Hid (0 < nm → 0 < v.n → v.g ≠ gl) := fun _ h0 => hgl.1.2.2.1 v (List.mem_of_getElem? hv) h0
      have HMF : Hid (∀ x y, byteX (mergeF (L.take i) x y)) := fun x y => merge_byte _ x y
      have HEX : Hid (img Q (fun x y => overX (atX v.B (unimg v.B v.l) x y) (mergeF (L.take i) x y)) = img Q (mergeF (L.take (i + 1)))) := by
        apply congrArg
        funext x y
        rw [merge_next hv]
      clear hM hv hGv hOl hgl hVv
      go_wp2_with (go_at_call 57; with_reducible refine Calls.mono (lay_any w.heap.size gl noff nn nm no Q (mergeF (L.take i)) v.B v.ao v.n v.m v.g v.off (unimg v.B v.l) _ HNN.out.1 HNN.out.2 HOL.out HMF.out HGv.out.n5 HGv.out.buf HVX.out HGv.out.byt HNE.out) ?_; rintro e w3 ⟨rfl, hO, hbu⟩; have HM3 := hid (HM1.out.to HGL.out hbu hO HEX.out); clear hO hbu)
      go_roundg (n - (i + 1))
      case measure => omega
      case rel => exact ⟨i + 1, by omega, rfl, by simp, HM3.out⟩
    · obtain rfl : n = i := by omega
      obtain ⟨z0, z1, z2, z3, z4, zf⟩ := hM.z
      clear hM
      go_wp2
      obtain ⟨s0, s1, s2, s3, s4⟩ := set5 z0 z1 z2 z3 z4 (.int .i64 Q.x0) (.int .i64 Q.y0) (.int .i64 Q.x1) (.int .i64 Q.y1) (.slice no nn nm)
      obtain ⟨gl, hOl, hgl⟩ := HM.out.pick
      refine bodyPost_ret (v := .agg #[.int .i64 Q.x0, .int .i64 Q.y0, .int .i64 Q.x1, .int .i64 Q.y1, .slice no nn nm]) (by simp [results, Try.results29, go_sem, s0, s1, s2, s3, s4]) rfl ⟨⟨_, _, _, gl, noff, rfl, ?_⟩, ?_⟩
      · rw [List.take_of_length_le (by omega)] at hOl
        exact hOl.but (but_set5 _ _ _ _ _ _ _) (fun _ => Ne.symm hgl.1.1.1)
      · exact below_set5 HM.out.low (by omega) _ _ _ _ _

/-- while buffers are merged by the document -/
structure Mr (w : World) (k3 k4 k5 : Nat) (D Q : R) (oo : Option Addr) (on om og ooff : Nat) (F : Int → Int → X) (ao : Option Addr) (n c b off : Nat) (L : List Bv) (wr : World) : Prop where
  d : Rc.Has4 wr k3 (.int .i64 D.x0) (.int .i64 D.y0) (.int .i64 D.x1) (.int .i64 D.y1)
  z : Has5 wr k4 ⟨0, 0, 0, 0⟩ none 0 0
  h : Has5 wr k5 Q oo on om
  o : Ox w.heap.size wr oo on om og ooff (img Q F)
  v : Vb wr ao n c b off L
  low : Below w.heap.size w wr
  ne : 0 < om → og ≠ k4 ∧ og ≠ k5
section
variable {w : World} {k3 k4 k5 : Nat} {D Q : R} {oo : Option Addr} {on om og ooff : Nat} {F : Int → Int → X} {ao : Option Addr} {n c b off : Nat} {L : List Bv} {wr wr' : World}
theorem Mr.below (x : Mr w k3 k4 k5 D Q oo on om og ooff F ao n c b off L wr) (hb : Below wr.heap.size wr wr') : Mr w k3 k4 k5 D Q oo on om og ooff F ao n c b off L wr' :=
  ⟨x.d.below hb, x.z.below hb, x.h.below hb, x.o.below hb, x.v.below hb, Rc.via x.low hb, x.ne⟩
end
abbrev M9 (k b q0 : Nat) (D : R) (v : Bv) (w' : World) : Prop := w'.cell? ⟨k, 0, none⟩ = some (.int .i64 D.x0) ∧ w'.cell? ⟨k, 1, none⟩ = some (.int .i64 D.y0) ∧ w'.cell? ⟨k, 2, none⟩ = some (.int .i64 D.x1) ∧ w'.cell? ⟨k, 3, none⟩ = some (.int .i64 D.y1) ∧ w'.cell? ⟨b, q0, none⟩ = some (.int .i64 v.B.x0) ∧ w'.cell? ⟨b, q0 + 1, none⟩ = some (.int .i64 v.B.y0) ∧ w'.cell? ⟨b, q0 + 2, none⟩ = some (.int .i64 v.B.x1) ∧ w'.cell? ⟨b, q0 + 3, none⟩ = some (.int .i64 v.B.y1) ∧ w'.cell? ⟨b, q0 + 4, none⟩ = some (.slice v.ao v.n v.m)
theorem M9_block {k b q0 : Nat} {D : R} {v : Bv} {w1 w2 : World} (h : M9 k b q0 D v w1) (e0 : k < w1.heap.size → w2.heap[k]? = w1.heap[k]?) (e1 : b < w1.heap.size → w2.heap[b]? = w1.heap[b]?) : M9 k b q0 D v w2 := by
  obtain ⟨c0, c1, c2, c3, c4, c5, c6, c7, c8⟩ := h
  have e0 := fun o => World.cell?_of_block (a := ⟨k, o, none⟩) (e0 (World.block_lt_of_cell? w1 ⟨k, 0, none⟩ c0))
  have e1 := fun o => World.cell?_of_block (a := ⟨b, o, none⟩) (e1 (World.block_lt_of_cell? w1 ⟨b, q0, none⟩ c4))
  exact ⟨by rw [e0]; exact c0, by rw [e0]; exact c1, by rw [e0]; exact c2, by rw [e0]; exact c3, by rw [e1]; exact c4, by rw [e1]; exact c5, by rw [e1]; exact c6, by rw [e1]; exact c7, by rw [e1]; exact c8⟩
theorem M9_below {k b q0 : Nat} {D : R} {v : Bv} {w1 w2 : World} (h : M9 k b q0 D v w1) (hb : Below w1.heap.size w1 w2) : M9 k b q0 D v w2 := M9_block h (fun l => hb.block _ l) (fun l => hb.block _ l)
theorem M9_drew {k b q0 : Nat} {D : R} {v : Bv} {w1 : World} (h : M9 k b q0 D v w1) : M9 k b q0 D v w1.drew := M9_below h (Below.refl _ _).drew
theorem M9_alloc {k b q0 : Nat} {D : R} {v : Bv} {w1 : World} {o : Obj} (h : M9 k b q0 D v w1) : M9 k b q0 D v (w1.alloc o) := M9_below h ((Below.refl _ _).alloc (Nat.le_refl _) _)
theorem M9_but {k b q0 : Nat} {D : R} {v : Bv} {g : Nat} {w1 w2 : World} (h : M9 k b q0 D v w1) (hb : But g w1 w2) (h0 : k ≠ g) (h1 : b ≠ g) : M9 k b q0 D v w2 := M9_block h (fun l => hb.block _ l h0) (fun l => hb.block _ l h1)
theorem M9_set5 {k b q0 : Nat} {D : R} {v : Bv} {j : Nat} {w1 : World} {v0 v1 v2 v3 v4 : Value} (h : M9 k b q0 D v w1) (h0 : k ≠ j) (h1 : b ≠ j) : M9 k b q0 D v (((((w1.setCell ⟨j, 0, none⟩ v0).setCell ⟨j, 1, none⟩ v1).setCell ⟨j, 2, none⟩ v2).setCell ⟨j, 3, none⟩ v3).setCell ⟨j, 4, none⟩ v4) := M9_but h (but_set5 w1 j v0 v1 v2 v3 v4) h0 h1
theorem M9_set4 {k b q0 : Nat} {D : R} {v : Bv} {j : Nat} {w1 : World} {v0 v1 v2 v3 : Value} (h : M9 k b q0 D v w1) (h0 : k ≠ j) (h1 : b ≠ j) : M9 k b q0 D v ((((w1.setCell ⟨j, 0, none⟩ v0).setCell ⟨j, 1, none⟩ v1).setCell ⟨j, 2, none⟩ v2).setCell ⟨j, 3, none⟩ v3) := M9_but h (but_set4 w1 j v0 v1 v2 v3) h0 h1

set_option maxRecDepth 100000 in
set_option maxHeartbeats 4000000 in
theorem refMerge_any (ao : Option Addr) (n c b off : Nat) (L : List Bv) (D : R) (w : World) (hn : n ≤ 1000000) (h : Vb w ao n c b off L) (hg : ∀ v, v ∈ L → Gb v) (hD : Ok D) (ha : area D ≤ 5000) :
    Calls Try.prog 30 #[.slice ao n c, .agg #[.int .i64 D.x0, .int .i64 D.y0, .int .i64 D.x1, .int .i64 D.y1]] w fun e w' => RetB w.heap.size w' e (orN D) (img (orN D) (mergeF L)) ∧ Below w.heap.size w w' := by
  have hL := vb_len h
  have HA : Hid (Rc.Has4 (((w.alloc (.cells #[.int .i64 D.x0, .int .i64 D.y0, .int .i64 D.x1, .int .i64 D.y1] 23)).alloc (.cells #[.int .i64 0, .int .i64 0, .int .i64 0, .int .i64 0, .slice none 0 0] 26))) w.heap.size (.int .i64 D.x0) (.int .i64 D.y0) (.int .i64 D.x1) (.int .i64 D.y1) ∧ Has5 (((w.alloc (.cells #[.int .i64 D.x0, .int .i64 D.y0, .int .i64 D.x1, .int .i64 D.y1] 23)).alloc (.cells #[.int .i64 0, .int .i64 0, .int .i64 0, .int .i64 0, .slice none 0 0] 26))) (w.heap.size + 1) ⟨0, 0, 0, 0⟩ none 0 0 ∧ Below w.heap.size w (((w.alloc (.cells #[.int .i64 D.x0, .int .i64 D.y0, .int .i64 D.x1, .int .i64 D.y1] 23)).alloc (.cells #[.int .i64 0, .int .i64 0, .int .i64 0, .int .i64 0, .slice none 0 0] 26))) ∧ w.heap.size + 1 < (((w.alloc (.cells #[.int .i64 D.x0, .int .i64 D.y0, .int .i64 D.x1, .int .i64 D.y1] 23)).alloc (.cells #[.int .i64 0, .int .i64 0, .int .i64 0, .int .i64 0, .slice none 0 0] 26))).heap.size) := ⟨(Rc.Has4.new rfl _ _ _ _ _).alloc _, Has5.new (by simp) _ _ _ _ _ _ _ _, ((Below.refl _ _).alloc (Nat.le_refl _) _).alloc (by simp) _, by simp⟩
  obtain ⟨Q, hQ⟩ : ∃ Q, Q = orN D := ⟨_, rfl⟩
  have HQ : Hid (orN D = Q) := hQ.symm
  have HQK : Hid (Ok Q ∧ wid Q * hei Q ≤ 5000) := by
    have := buf_new hD ha
    rw [hQ]
    exact ⟨ok_orN hD, this.2.1⟩
  have HH := hid (And.intro hD (And.intro ha (And.intro h hg)))
  rw [← hQ]
  clear hQ hD ha h hg
  obtain ⟨q0, q1, q2, q3, qf⟩ := HA.out.1
  go_enter Try.func30, Try.ntmps30
  go_wp2_with (go_at_call 49; with_reducible refine Calls.mono (refNew_any D.x0 D.y0 D.x1 D.y1 _ HH.out.1 HH.out.2.1) ?_; rintro e w1 ⟨hr, hb1⟩; rw [show orN ⟨D.x0, D.y0, D.x1, D.y1⟩ = Q from HQ.out] at hr; obtain ⟨oo, on, om, og, ooff, rfl, hO, hg1, hg0, hg2, hln⟩ := retK hr hb1.size; have HLN := hid (And.intro hg1 hg2); have HO1 := hid hO; have HB1 := hid hb1; clear hr hb1 hO hg1 hg2 hg0 hln q0 q1 q2 q3 qf)
  have HMS : Hid (Mr w w.heap.size (w.heap.size + 1) w1.heap.size D Q oo on om og ooff (mergeF (L.take 0)) ao n c b off L (w1.alloc (.cells #[.int .i64 Q.x0, .int .i64 Q.y0, .int .i64 Q.x1, .int .i64 Q.y1, .slice oo on om] 26))) := by
    have ha1 : Below w1.heap.size w1 (w1.alloc (.cells #[.int .i64 Q.x0, .int .i64 Q.y0, .int .i64 Q.x1, .int .i64 Q.y1, .slice oo on om] 26)) := (Below.refl _ _).alloc (Nat.le_refl _) _
    have hb1 := Rc.via HA.out.2.2.1 HB1.out
    have hz := HA.out.2.2.1.size
    have hk := HA.out.2.2.2
    have hlo := HLN.out.1
    refine ⟨(HA.out.1.below HB1.out).below ha1, (HA.out.2.1.below HB1.out).below ha1, Has5.new rfl _ _ _ _ _ _ _ _, ?_, HH.out.2.2.1.below (Rc.via hb1 ha1), Rc.via hb1 ha1, fun hm => ⟨by omega, ?_⟩⟩
    · exact (HO1.out.below ha1).mono hz
    · have := HLN.out.2 hm; omega
  have HK5 : Hid (w.heap.size + 1 < w1.heap.size ∧ w.heap.size < w1.heap.size ∧ w.heap.size ≤ w1.heap.size) := by
    have hz := HA.out.2.2.1.size
    have hz1 := HB1.out.size
    have hk := HA.out.2.2.2
    exact ⟨by omega, by omega, by omega⟩
  clear HA HO1 HB1 HLN
  generalize w1.alloc (.cells #[.int .i64 Q.x0, .int .i64 Q.y0, .int .i64 Q.x1, .int .i64 Q.y1, .slice oo on om] 26) = w2 at HMS ⊢
  generalize w1.heap.size = k5 at HMS HK5 ⊢
  go_wp2
  go_loopg [6] n (fun gh v6 wr => ∃ (i : Nat) (oo : Option Addr) (on om og ooff : Nat), i ≤ n ∧ gh = n - i ∧ v6 = .int .i64 (i : Int) ∧ Mr w w.heap.size (w.heap.size + 1) k5 D Q oo on om og ooff (mergeF (L.take i)) ao n c b off L wr)
  case atStart => exact ⟨0, _, _, _, _, _, Nat.zero_le _, rfl, rfl, HMS.out⟩
  case round =>
    clear HMS
    obtain ⟨i, oo, on, om, og, ooff, hi, rfl, rfl, hM⟩ := hrel
    have HM := hid hM
    by_cases hil : i < n
    · have hiz : (i : Int) < (n : Int) := by omega
      obtain ⟨v, hv⟩ : ∃ v, L[i]? = some v := ⟨_, List.getElem?_eq_getElem (by omega)⟩
      obtain ⟨rfl, ⟨e0, e1, e2, e3, e4⟩, hVv⟩ := vb_at hM.v hv
      have hGv := HH.out.2.2.2 v (List.mem_of_getElem? hv)
      have HGv := hid hGv
      have HVX : Hid (Vx wr.drew v.ao v.n v.m v.g v.off (img v.B (unimg v.B v.l))) := by rw [← hGv.im]; exact hVv.below (Below.refl _ _).drew
      have HMF : Hid (∀ x y, byteX (mergeF (L.take i) x y)) := fun x y => merge_byte _ x y
      have HON : Hid (on ≤ 5000) := hid <| by
        have h1 := vx_len hM.o.v
        rw [img_len] at h1
        have := HQK.out.2
        omega
      have HEX : Hid (img Q (fun x y => overX (atX v.B (unimg v.B v.l) x y) (atX Q (mergeF (L.take i)) x y)) = img Q (mergeF (L.take (i + 1)))) := by
        apply img_ext
        intro x y hb
        rw [merge_next hv]
        unfold atX
        rw [if_pos hb]
      have HBK : Hid (b < w.heap.size ∧ w.heap.size ≤ k5) := by
        have := HH.out.2.2.1.z.lies.lt (by rw [flatB_len, hL]; omega)
        have h5 := HK5.out.2.2
        exact ⟨by omega, h5⟩
      obtain ⟨d0, d1, d2, d3, df⟩ := hM.d
      have hS : M9 w.heap.size b (off + i * 5) D v wr.drew := M9_drew ⟨d0, d1, d2, d3, e0, e1, e2, e3, e4⟩
      replace HM := hid (hM.below (Below.refl _ _).drew)
      clear hM hv hGv hVv e0 e1 e2 e3 e4 d0 d1 d2 d3 df
      go_wp2
      refine wp_region_held_drew (S := (fun w' => w'.cell? ⟨w.heap.size, 0, none⟩ = some (.int .i64 D.x0) ∧ w'.cell? ⟨w.heap.size, 1, none⟩ = some (.int .i64 D.y0) ∧ w'.cell? ⟨w.heap.size, 2, none⟩ = some (.int .i64 D.x1) ∧ w'.cell? ⟨w.heap.size, 3, none⟩ = some (.int .i64 D.y1) ∧ w'.cell? ⟨b, off + i * 5, none⟩ = some (.int .i64 v.B.x0) ∧ w'.cell? ⟨b, off + i * 5 + 1, none⟩ = some (.int .i64 v.B.y0) ∧ w'.cell? ⟨b, off + i * 5 + 2, none⟩ = some (.int .i64 v.B.x1) ∧ w'.cell? ⟨b, off + i * 5 + 3, none⟩ = some (.int .i64 v.B.y1) ∧ w'.cell? ⟨b, off + i * 5 + 4, none⟩ = some (.slice v.ao v.n v.m))) (by kernel_rfl) ?_ (fun hHeld => ?_)
      · exact hS
      generalize wr.drew = wd at HM HVX hS hHeld ⊢
      obtain ⟨p0, p1, p2, p3, p4, pf⟩ := HM.out.h
      refine wpAnyH_take (i := 0) (oi := { dst := some 15, op := Op.move (Operand.tmp 0), type := 42, pos := "ref.go:85", after := #[], guard := none }) (v := ?_) rfl (by kernel_rfl) (by kernel_rfl) (by kernel_rfl) (fun _ _ _ h => h) (Or.inl ⟨by rfl, ?hy⟩) (by assumption) ?_
      case hy => (intro w hSw; (try dsimp only at hSw); go_simp; first | done | with_reducible rfl)
      try simp only [Act.put, List.setIfInBounds_toArray, List.set_cons_zero, List.set_cons_succ]
      refine wpAnyH_take (i := 1) (oi := { dst := some 16, op := Op.move (Operand.tmp 6), type := 3, pos := "ref.go:85", after := #[], guard := none }) (v := ?_) rfl (by kernel_rfl) (by kernel_rfl) (by kernel_rfl) (fun _ _ _ h => h) (Or.inl ⟨by rfl, ?hy⟩) (by assumption) ?_
      case hy => (intro w hSw; (try dsimp only at hSw); go_simp; first | done | with_reducible rfl)
      try simp only [Act.put, List.setIfInBounds_toArray, List.set_cons_zero, List.set_cons_succ]
      refine wpAnyH_take (i := 2) (oi := { dst := some 17, op := Op.indexAddr 42 (Operand.tmp 15) (Operand.tmp 16), type := 0, pos := "ref.go:85", after := #[{ on := 0, ground := Ground.data }, { on := 1, ground := Ground.data }], guard := none }) (v := ?_) rfl (by kernel_rfl) (by kernel_rfl) (by kernel_rfl) (fun _ _ _ h => h) (Or.inl ⟨by rfl, ?hy⟩) (by assumption) ?_
      case hy => (intro w hSw; (try dsimp only at hSw); go_simp; first | done | with_reducible rfl)
      try simp only [Act.put, List.setIfInBounds_toArray, List.set_cons_zero, List.set_cons_succ]
      refine wpAnyH_take (i := 3) (oi := { dst := some 18, op := Op.load 26 (Operand.tmp 17), type := 26, pos := "ref.go:85", after := #[{ on := 2, ground := Ground.data }], guard := none }) (v := ?_) rfl (by kernel_rfl) (by kernel_rfl) (by kernel_rfl) (fun _ _ _ h => h) (Or.inl ⟨by rfl, ?hy⟩) (by assumption) ?_
      case hy => (intro w hSw; (try dsimp only at hSw); go_simp; first | done | with_reducible rfl)
      try simp only [Act.put, List.setIfInBounds_toArray, List.set_cons_zero, List.set_cons_succ]
      refine wpAnyH_take (i := 5) (oi := { dst := some 20, op := Op.load 23 (Operand.tmp 3), type := 23, pos := "ref.go:85", after := #[], guard := none }) (v := ?_) rfl (by kernel_rfl) (by kernel_rfl) (by kernel_rfl) (fun _ _ _ h => h) (Or.inl ⟨by rfl, ?hy⟩) (by assumption) ?_
      case hy => (intro w hSw; (try dsimp only at hSw); go_simp; first | done | with_reducible rfl)
      try simp only [Act.put, List.setIfInBounds_toArray, List.set_cons_zero, List.set_cons_succ]
      refine wpAnyH_ready (rs := [4]) (by kernel_rfl) (by simp) ?_
      refine AllReadyH.cons (o := { dst := some 19, op := Op.load 26 (Operand.tmp 5), type := 26, pos := "ref.go:85", after := #[], guard := none }) rfl (fun K hK => ?_) AllReadyH.nil
      go_simp
      refine hK.out _ _ ?_ (fun hHeld => ?_)
      · exact hS
      clear hK K
      try simp only [Act.put, List.setIfInBounds_toArray, List.set_cons_zero, List.set_cons_succ]
      refine wpAnyH_ready (rs := [6]) (by kernel_rfl) (by simp) ?_
      refine AllReadyH.cons (o := { dst := some 21, op := Op.call { callee := Callee.value (Operand.func 60), args := #[Operand.tmp 18, Operand.tmp 19, Operand.tmp 20], argTypes := #[26, 26, 23] }, type := 26, pos := "ref.go:85", after := #[{ on := 3, ground := Ground.data }, { on := 4, ground := Ground.data }, { on := 5, ground := Ground.data }], guard := none }) rfl (fun K hK => ?_) AllReadyH.nil
      go_simp
      (go_at_call 60; with_reducible refine Calls.mono (refOverB_any v.B v.ao v.n v.m v.g v.off (unimg v.B v.l) Q oo on om og ooff (mergeF (L.take i)) D _ HGv.out.ok HGv.out.n5 HVX.out HGv.out.byt HQK.out.1 HON.out HM.out.o.v HMF.out HH.out.1 HH.out.2.1) ?_; rintro e w3 ⟨hr, hb3⟩; rw [HQ.out, HEX.out] at hr; obtain ⟨oo', on', om', og', ooff', rfl, hO, hg1, hg0, hg2, hln⟩ := retK hr hb3.size; have HM3 := hid (HM.out.below hb3); have HO3 := hid (And.intro hO (And.intro hg1 hg0)); replace hS := M9_below hS hb3; have HSZ := hid hb3.size; clear hr hO hg1 hg0 hg2 hln hb3 p0 p1 p2 p3 p4 pf; obtain ⟨p0, p1, p2, p3, p4, pf⟩ := HM3.out.h)
      go_wp2_with fail
      refine hK.out _ _ ?_ (fun hHeld => ?_)
      · exact hS
      clear hK K
      try simp only [Act.put, List.setIfInBounds_toArray, List.set_cons_zero, List.set_cons_succ]
      
      refine wpAnyH_ready (rs := [7]) (by kernel_rfl) (by simp) ?_
      refine AllReadyH.cons (o := { dst := none, op := Op.store 26 (Operand.tmp 5) (Operand.tmp 21), type := 0, pos := "ref.go:85", after := #[{ on := 6, ground := Ground.data }, { on := 6, ground := Ground.chain }, { on := 0, ground := Ground.phase }, { on := 1, ground := Ground.phase }, { on := 2, ground := Ground.phase }, { on := 3, ground := Ground.phase }, { on := 4, ground := Ground.phase }, { on := 5, ground := Ground.phase }, { on := 6, ground := Ground.phase }], guard := none }) rfl (fun K hK => ?_) AllReadyH.nil
      go_simp
      refine hK.out _ _ ?_ (fun hHeld => ?_)
      · exact M9_set5 hS (by have := HK5.out; omega) (by have := HBK.out; omega)
      clear hK K
      try simp only [Act.put, List.setIfInBounds_toArray, List.set_cons_zero, List.set_cons_succ]
      have HM5 : Hid (Mr w (w.heap.size) (w.heap.size + 1) k5 D Q oo' on' om' og' ooff' (mergeF (L.take (i + 1))) (some ⟨b, off, none⟩) n c b off L (((((w3.setCell ⟨k5, 0, none⟩ (.int .i64 Q.x0)).setCell ⟨k5, 1, none⟩ (.int .i64 Q.y0)).setCell ⟨k5, 2, none⟩ (.int .i64 Q.x1)).setCell ⟨k5, 3, none⟩ (.int .i64 Q.y1)).setCell ⟨k5, 4, none⟩ (.slice oo' on' om'))) := by
        have hb := but_set5 w3 k5 (.int .i64 Q.x0) (.int .i64 Q.y0) (.int .i64 Q.x1) (.int .i64 Q.y1) (.slice oo' on' om')
        have h1 := HM3.out
        have hk5 := HK5.out
        have hdz := HM.out.low.size
        have hd3 := HSZ.out
        have hx5 := HM.out.h.lt
        have hx4 := HM.out.z.lt
        have h3 := HO3.out.2.1
        have hne : 0 < om' → og' ≠ k5 := fun _ => by omega
        refine ⟨has4_but h1.d hb (by omega), h1.z.but hb (by omega), has5_set h1.h _ _ _ _ _ _ _, (HO3.out.1.mono hdz).but hb hne, vb_but h1.v hb (fun hn0 => ?_) (fun u hu hu0 => ?_), below_set5 h1.low (by omega) _ _ _ _ _, fun hm => ⟨by omega, hne hm⟩⟩
        · have := HH.out.2.2.1.z.lies.lt (by rw [flatB_len, hL]; omega)
          omega
        · have := vx_lt (HH.out.2.2.1.v u hu) hu0
          omega
      refine wpAnyH_done (by kernel_rfl) ?_ _
      go_wp2
      go_roundg (n - (i + 1))
      case measure => omega
      case rel => exact ⟨i + 1, _, _, _, _, _, by omega, rfl, by simp, HM5.out⟩
    · obtain rfl : n = i := by omega
      obtain ⟨p0, p1, p2, p3, p4, pf⟩ := hM.h
      obtain ⟨z0, z1, z2, z3, z4, zf⟩ := hM.z
      clear hM
      go_wp2
      obtain ⟨s0, s1, s2, s3, s4⟩ := set5 z0 z1 z2 z3 z4 (.int .i64 Q.x0) (.int .i64 Q.y0) (.int .i64 Q.x1) (.int .i64 Q.y1) (.slice oo on om)
      refine bodyPost_ret (v := .agg #[.int .i64 Q.x0, .int .i64 Q.y0, .int .i64 Q.x1, .int .i64 Q.y1, .slice oo on om]) (by simp [results, Try.results30, go_sem, s0, s1, s2, s3, s4]) rfl ⟨⟨_, _, _, og, ooff, rfl, ?_⟩, ?_⟩
      · have hOl := HM.out.o
        rw [List.take_of_length_le (by omega)] at hOl
        exact hOl.but (but_set5 _ _ _ _ _ _ _) (fun hm => (HM.out.ne hm).1)
      · exact below_set5 HM.out.low (by omega) _ _ _ _ _
end Go.Proofs.Ytfgfgfmimejpdaa
