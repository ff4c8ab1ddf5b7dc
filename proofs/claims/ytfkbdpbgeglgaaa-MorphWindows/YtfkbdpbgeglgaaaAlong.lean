/- Along a line: the contract. -/
import Derived.Test.YtfkbdpbgeglgaaaLines
namespace Go.Proofs.Ytfkbdpbgeglgaaa
open Num Go.RowKit
set_option linter.unusedVariables false
set_option linter.unusedSimpArgs false

/-- two blocks alone are written -/
structure But2 (g k : Nat) (w w' : World) : Prop where
  os : w'.os = w.os
  tape : w'.tape = w.tape
  output : w'.output = w.output
  size : w.heap.size ≤ w'.heap.size
  block : ∀ j, j < w.heap.size → j ≠ g → j ≠ k → w'.heap[j]? = w.heap[j]?
theorem But2.refl (g k : Nat) (w : World) : But2 g k w w := ⟨rfl, rfl, rfl, Nat.le_refl _, fun _ _ _ _ => rfl⟩
theorem But2.trans {g k : Nat} {x y z : World} (h : But2 g k x y) (l : But2 g k y z) : But2 g k x z :=
  ⟨l.os.trans h.os, l.tape.trans h.tape, l.output.trans h.output, Nat.le_trans h.size l.size, fun i hi h1 h2 => (l.block i (Nat.lt_of_lt_of_le hi h.size) h1 h2).trans (h.block i hi h1 h2)⟩
theorem But2.of {g k : Nat} {w w' : World} (h : Below w.heap.size w w') : But2 g k w w' := ⟨h.os, h.tape, h.output, h.size, fun j hj _ _ => h.block j hj⟩
theorem But2.fst {g k : Nat} {w w' : World} (h : But g w w') : But2 g k w w' := ⟨h.os, h.tape, h.output, h.size, fun j hj h1 _ => h.block j hj h1⟩
theorem But2.snd {g k : Nat} {w w' : World} (h : But k w w') : But2 g k w w' := ⟨h.os, h.tape, h.output, h.size, fun j hj _ h2 => h.block j hj h2⟩
theorem But2.low {g k B : Nat} {w w' : World} (h : But2 g k w w') (h1 : B ≤ g) (h2 : B ≤ k) (h3 : B ≤ w.heap.size) : Below B w w' := ⟨h.os, h.tape, h.output, h.size, fun j hj => h.block j (by omega) (by omega) (by omega)⟩
theorem Vz.but2 {sz g k : Nat} {W w : World} {ao : Option Addr} {n c b off : Nat} {cs : List Value} (h : Vz sz W ao n c b off cs) (hb : But2 g k W w) (hg : b ≠ g) (hk : b ≠ k) : Vz sz w ao n c b off cs := by
  refine ⟨h.len, h.le, h.max, h.addr, fun j u hu => ?_⟩
  have hj : j < cs.length := (List.getElem?_eq_some_iff.1 hu).1
  exact (World.cell?_of_block (a := ⟨b, off + j, none⟩) (hb.block b (h.lies.lt (by omega)) hg hk)).trans (h.lies j u hu)
theorem Has5.but2 {g k : Nat} {w w' : World} {j : Nat} {B : R} {ao : Option Addr} {n c : Nat} (h : Has5 w j B ao n c) (hb : But2 g k w w') (hg : j ≠ g) (hk : j ≠ k) : Has5 w' j B ao n c := h.block (hb.block j h.lt hg hk)
theorem has4_but2 {g k' : Nat} {w w' : World} {k : Nat} {v0 v1 v2 v3 : Value} (h : Rc.Has4 w k v0 v1 v2 v3) (hb : But2 g k' w w') (hg : k ≠ g) (hk : k ≠ k') : Rc.Has4 w' k v0 v1 v2 v3 := by
  have e := hb.block k h.lt hg hk
  have hc : ∀ j, w'.cell? ⟨k, j, none⟩ = w.cell? ⟨k, j, none⟩ := fun j => World.cell?_of_block (a := ⟨k, j, none⟩) e
  exact ⟨by rw [hc]; exact h.c0, by rw [hc]; exact h.c1, by rw [hc]; exact h.c2, by rw [hc]; exact h.c3, fun j => by rw [World.frozen?_of_block (a := ⟨k, j, none⟩) e]; exact h.fz j⟩

/-- pixels put one after the other -/
def lineI (F : Int → Int → X) (px py : Nat → Int) (G : Nat → X) : Nat → Int → Int → X
  | 0 => F
  | m + 1 => putG (lineI F px py G m) (py m) (px m) (px m + 1) (fun _ => G m)
theorem line_one (h : Int → X) (a : Int) : line h a (a + 1) = [h a] := by
  unfold line
  rw [show (a + 1 - a).toNat = 1 by omega]
  simp
theorem in_one {Z : R} {x y : Int} (h : hasB Z x y = true) : In Z x (x + 1) y := by
  have := of_decide_eq_true h
  exact ⟨by omega, by omega, by omega, by omega, by omega⟩
/-- how a line lies in a buffer -/
structure Lt (Z : R) (off : Nat) (px py : Nat → Int) (o nT st K : Nat) : Prop where
  h : ∀ j, j < K → hasB Z (px j) (py j) = true
  p : ∀ j, j < K → o + j * st * 4 = off + posN Z (px j) (py j) * 4
  n : ∀ j, j < K → j * st < nT
/-- what stands while it goes along -/
structure As (w : World) (lo g off n m : Nat) (Z : R) (fg foff fn fm : Nat) (B : R) (f : Int → Int → X) (k : Nat) (t : Bool) (F : Int → X) (k5 k6 : Nat) (s5 s6 : Value) (st K fst N : Int) (Fz : Int → Int → X) (c : Nat) (l h : Int) (wr : World) : Prop where
  o : Ox lo wr (some ⟨g, off, none⟩) n m g off (img Z Fz)
  v : Vx wr (some ⟨fg, foff, none⟩) fn fm fg foff (img B f)
  s : Si wr k t c F (fun _ => l) (fun _ => h)
  t5 : L3 wr k5 s5 st K
  t6 : L3 wr k6 s6 fst N
  but : But2 g k w wr
  d : fg ≠ g ∧ k ≠ g ∧ fg ≠ k ∧ k5 ≠ g ∧ k5 ≠ k ∧ k6 ≠ g ∧ k6 ≠ k
section
variable {w : World} {lo g off n m : Nat} {Z : R} {fg foff fn fm : Nat} {B : R} {f : Int → Int → X} {k : Nat} {t : Bool} {F : Int → X} {k5 k6 : Nat} {s5 s6 : Value} {st K fst N : Int} {Fz : Int → Int → X} {c : Nat} {l h : Int} {wr wr' : World}
theorem As.below (a : As w lo g off n m Z fg foff fn fm B f k t F k5 k6 s5 s6 st K fst N Fz c l h wr) (hb : Below wr.heap.size wr wr') : As w lo g off n m Z fg foff fn fm B f k t F k5 k6 s5 s6 st K fst N Fz c l h wr' :=
  ⟨a.o.below hb, a.v.below hb, a.s.below hb, a.t5.below hb, a.t6.below hb, a.but.trans (But2.of hb), a.d⟩
theorem As.sight (a : As w lo g off n m Z fg foff fn fm B f k t F k5 k6 s5 s6 st K fst N Fz c l h wr) {c' : Nat} {l' h' : Int} (hs : Si wr' k t c' F (fun _ => l') (fun _ => h')) (hc : Ch k 0 4104 wr wr') : As w lo g off n m Z fg foff fn fm B f k t F k5 k6 s5 s6 st K fst N Fz c' l' h' wr' := by
  obtain ⟨d1, d2, d3, d4, d5, d6, d7⟩ := a.d
  exact ⟨a.o.but hc.but (fun _ => Ne.symm d2), a.v.but hc.but d3, hs, a.t5.but hc.but d5, a.t6.but hc.but d7, a.but.trans (But2.snd hc.but), a.d⟩
theorem As.re (a : As w lo g off n m Z fg foff fn fm B f k t F k5 k6 s5 s6 st K fst N Fz c l h wr) {l' h' : Int} (e1 : l' = l) (e2 : h' = h) : As w lo g off n m Z fg foff fn fm B f k t F k5 k6 s5 s6 st K fst N Fz c l' h' wr := by
  subst e1; subst e2; exact a
theorem As.pix (a : As w lo g off n m Z fg foff fn fm B f k t F k5 k6 s5 s6 st K fst N Fz c l h wr) {x y : Int} (hb : hasB Z x y = true) {q : Nat} (hq : q = off + posN Z x y * 4) (p : X) :
    As w lo g off n m Z fg foff fn fm B f k t F k5 k6 s5 s6 st K fst N (putG Fz y x (x + 1) (fun _ => p)) c l h ((((wr.setCell ⟨g, q, none⟩ (.int .u8 p.c0)).setCell ⟨g, q + 1, none⟩ (.int .u8 p.c1)).setCell ⟨g, q + 2, none⟩ (.int .u8 p.c2)).setCell ⟨g, q + 3, none⟩ (.int .u8 p.c3)) := by
  obtain ⟨d1, d2, d3, d4, d5, d6, d7⟩ := a.d
  have hb1 := but_cells g (off + posN Z x y * 4) (flat (line (fun _ => p) x (x + 1))) wr
  have ho := ox_img_put a.o (in_one hb) (fun _ => p)
  rw [line_one, ← hq] at hb1 ho
  exact ⟨ho, a.v.but hb1 d1, a.s.but hb1 d2, a.t5.but hb1 d4, a.t6.but hb1 d6, a.but.trans (But2.fst hb1), a.d⟩
theorem As.four (a : As w lo g off n m Z fg foff fn fm B f k t F k5 k6 s5 s6 st K fst N Fz c l h wr) {x y : Int} (hb : hasB Z x y = true) {q : Nat} (hq : q = off + posN Z x y * 4) : ∃ u0 u1 u2 u3, wr.cell? ⟨g, q, none⟩ = some u0 ∧ wr.cell? ⟨g, q + 1, none⟩ = some u1 ∧ wr.cell? ⟨g, q + 2, none⟩ = some u2 ∧ wr.cell? ⟨g, q + 3, none⟩ = some u3 ∧
    wr.frozen? ⟨g, q, none⟩ = false ∧ wr.frozen? ⟨g, q + 1, none⟩ = false ∧ wr.frozen? ⟨g, q + 2, none⟩ = false ∧ wr.frozen? ⟨g, q + 3, none⟩ = false := by
  subst hq
  have r : ∀ j, j < 4 → (wr.cell? ⟨g, off + posN Z x y * 4 + j, none⟩).isSome = true ∧ wr.frozen? ⟨g, off + posN Z x y * 4 + j, none⟩ = false := fun j hj => ox_room a.o (in_one hb) j (by omega)
  have r0 := r 0 (by omega)
  rw [Nat.add_zero] at r0
  obtain ⟨u0, e0⟩ := Option.isSome_iff_exists.1 r0.1
  obtain ⟨u1, e1⟩ := Option.isSome_iff_exists.1 (r 1 (by omega)).1
  obtain ⟨u2, e2⟩ := Option.isSome_iff_exists.1 (r 2 (by omega)).1
  obtain ⟨u3, e3⟩ := Option.isSome_iff_exists.1 (r 3 (by omega)).1
  exact ⟨u0, u1, u2, u3, e0, e1, e2, e3, r0.2, (r 1 (by omega)).2, (r 2 (by omega)).2, (r 3 (by omega)).2⟩
/-- a pixel that is read -/
theorem As.read (a : As w lo g off n m Z fg foff fn fm B f k t F k5 k6 s5 s6 st K fst N Fz c l h wr) {x y : Int} (hb : hasB B x y = true) {q : Nat} (hq : q = foff + posN B x y * 4) : wr.cell? ⟨fg, q, none⟩ = some (.int .u8 (f x y).c0) ∧ wr.cell? ⟨fg, q + 1, none⟩ = some (.int .u8 (f x y).c1) ∧ wr.cell? ⟨fg, q + 2, none⟩ = some (.int .u8 (f x y).c2) ∧ wr.cell? ⟨fg, q + 3, none⟩ = some (.int .u8 (f x y).c3) := by
  subst hq
  exact (vx_at a.v (at_img f hb)).2
end
/-- the window's ends, as it goes along -/
def wlo (r : Nat) (i : Int) : Int := mx 0 (i - 2 * (r : Int))
def whi (N : Nat) (i : Int) : Int := mn (N : Int) i
/-- what comes to the j-th place -/
def outX (t : Bool) (F : Int → X) (N : Nat) (lead : Int) (r : Nat) (j : Nat) : X := extX t F (mx 0 ((j : Int) + lead - (r : Int))) (mn (N : Int) ((j : Int) + lead + (r : Int) + 1))

set_option maxRecDepth 100000 in
set_option maxHeartbeats 4000000 in
theorem along_any (lo g off n m : Nat) (Z : R) (Fz : Int → Int → X) (px py : Nat → Int) (o nT cT st K : Nat) (fg foff fn fm : Nat) (B : R) (f : Int → Int → X) (qx qy : Nat → Int) (fo nF cF fst N : Nat) (F : Int → X) (k : Nat) (t : Bool) (lead : Int) (r : Nat) (w : World)
    (hO : Ox lo w (some ⟨g, off, none⟩) n m g off (img Z Fz)) (hV : Vx w (some ⟨fg, foff, none⟩) fn fm fg foff (img B f)) (hS : Sr w k t) (hT : Lt Z off px py o nT st K) (hQ : Lt B foff qx qy fo nF fst N) (hFf : ∀ j, j < N → F (j : Int) = f (qx j) (qy j)) (hb : ∀ i, byteX (F i))
    (hd : fg ≠ g ∧ k ≠ g ∧ fg ≠ k) (hg : g < w.heap.size) (hr : r ≤ 255) (hl0 : -(r : Int) ≤ lead) (hl1 : lead ≤ (r : Int)) (hK : K ≤ 5000) (hN : N ≤ 5000) (hnT : nT ≤ 1000000) (hnF : nF ≤ 1000000)
    (hW : ∀ j : Nat, j < K → mx 0 ((j : Int) + lead - (r : Int)) < mn (N : Int) ((j : Int) + lead + (r : Int) + 1)) :
    Calls Try.prog 41 #[.agg #[.slice (some ⟨g, o, none⟩) nT cT, .int .i64 (st : Int), .int .i64 (K : Int)], .agg #[.slice (some ⟨fg, fo, none⟩) nF cF, .int .i64 (fst : Int), .int .i64 (N : Int)], .int .i64 lead, .int .i64 (r : Int), .pointer (some ⟨k, 0, none⟩)] w fun e w' => e = .returned (.tuple #[]) ∧ Ox lo w' (some ⟨g, off, none⟩) n m g off (img Z (lineI Fz px py (outX t F N lead r) K)) ∧ Sr w' k t ∧ But2 g k w w' := by
  have hkl := hS.lt
  obtain ⟨T, hT0⟩ : ∃ T : Nat, (K : Int) + lead + (r : Int) = (T : Int) := ⟨((K : Int) + lead + (r : Int)).toNat, by omega⟩
  have HT := hid hT
  have HQ := hid hQ
  have HF := hid (And.intro hFf hb)
  have HWI := hid hW
  have HA : Hid (∀ w1 w2, w1 = (w.alloc (.cells #[.slice (some ⟨g, o, none⟩) nT cT, .int .i64 (st : Int), .int .i64 (K : Int)] 67)).alloc (.cells #[.slice (some ⟨fg, fo, none⟩) nF cF, .int .i64 (fst : Int), .int .i64 (N : Int)] 67) → Zs w2 k t 4 → Ch k 0 4104 w1 w2 → As w lo g off n m Z fg foff fn fm B f k t F w.heap.size (w.heap.size + 1) (.slice (some ⟨g, o, none⟩) nT cT) (.slice (some ⟨fg, fo, none⟩) nF cF) (st : Int) (K : Int) (fst : Int) (N : Int) Fz 0 0 0 w2) := by
    intro w1 w2 h1 h2 h3
    have hb1 : Below w.heap.size w w1 := by rw [h1]; exact ((Below.refl _ _).alloc (Nat.le_refl _) _).alloc (by simp) _
    have t5 : L3 w1 w.heap.size (.slice (some ⟨g, o, none⟩) nT cT) (st : Int) (K : Int) := by
      rw [h1]
      exact (L3.new rfl _ _ _ _).below ((Below.refl _ _).alloc (Nat.le_refl _) _)
    have t6 : L3 w1 (w.heap.size + 1) (.slice (some ⟨fg, fo, none⟩) nF cF) (fst : Int) (N : Int) := by
      rw [h1]
      exact L3.new (by simp) _ _ _ _
    refine ⟨(hO.below hb1).but h3.but (fun _ => Ne.symm hd.2.1), (hV.below hb1).but h3.but hd.2.2, h2.si F 0 0 (Int.le_refl _), t5.but h3.but (by omega), t6.but h3.but (by omega), (But2.of hb1).trans (But2.snd h3.but), hd.1, hd.2.1, hd.2.2, by omega, by omega, by omega, by omega⟩
  have HSR : Hid (∀ w1, w1 = (w.alloc (.cells #[.slice (some ⟨g, o, none⟩) nT cT, .int .i64 (st : Int), .int .i64 (K : Int)] 67)).alloc (.cells #[.slice (some ⟨fg, fo, none⟩) nF cF, .int .i64 (fst : Int), .int .i64 (N : Int)] 67) → Sr w1 k t) := by
    intro w1 h1
    have hb1 : Below w.heap.size w w1 := by rw [h1]; exact ((Below.refl _ _).alloc (Nat.le_refl _) _).alloc (by simp) _
    exact hS.below hb1
  clear hO hV hS hT hQ hFf hb hd hW
  go_enter Try.func41, Try.ntmps41
  go_wp2_with (go_at_call 51; with_reducible refine Calls.mono (sempty_any k t _ (HSR.out _ rfl)) ?_; rintro e w2 ⟨rfl, hz, hch⟩; have HA0 := hid (HA.out _ w2 rfl hz hch); clear hz hch; obtain ⟨a0, a1, a2, af⟩ := HA0.out.t5)
  clear HA HSR a0 a1 a2 af
  go_loopg [20] T (fun gh v20 wr => ∃ i : Nat, i ≤ T ∧ gh = T - i ∧ v20 = .int .i64 (i : Int) ∧ As w lo g off n m Z fg foff fn fm B f k t F w.heap.size (w.heap.size + 1) (.slice (some ⟨g, o, none⟩) nT cT) (.slice (some ⟨fg, fo, none⟩) nF cF) (st : Int) (K : Int) (fst : Int) (N : Int) (lineI Fz px py (outX t F N lead r) ((i : Int) - (r : Int) - lead).toNat) i (wlo r (i : Int)) (whi N (i : Int)) wr)
  case atStart =>
    refine ⟨0, Nat.zero_le _, rfl, rfl, ?_⟩
    rw [show (((0 : Nat) : Int) - (r : Int) - lead).toNat = 0 by omega]
    exact HA0.out.re (by unfold wlo mx; omega) (by unfold whi mn; omega)
  case round =>
    clear HA0
    obtain ⟨i, hi, rfl, rfl, hA⟩ := hrel
    by_cases hlt : i < T
    · have hlz : (i : Int) < (T : Int) := by omega
      obtain ⟨a0, a1, a2, af⟩ := hA.t5
      obtain ⟨b0, b1, b2, bf⟩ := hA.t6
      have HLV : Hid ((((i : Int) - 2 * (r : Int)) < wlo r (i : Int) ∧ wlo r ((i + 1 : Nat) : Int) = wlo r (i : Int)) ∨ ((i : Int) - 2 * (r : Int) = wlo r (i : Int) ∧ wlo r ((i + 1 : Nat) : Int) = wlo r (i : Int) + 1)) := by
        show (_ ∧ _) ∨ (_ ∧ _)
        unfold wlo mx
        omega
      have HWD : Hid (whi N ((i + 1 : Nat) : Int) - wlo r (i : Int) ≤ 511) := by
        show _ ≤ _
        unfold whi wlo mx mn
        omega
      have hic : i ≤ 1000000 := by omega
      have hsub : IntKind.i64.wrap ((i : Int) - 2 * (r : Int)) = (i : Int) - 2 * (r : Int) := by rw [IntKind.wrap_i64]; omega
      have HA1 := hid hA
      clear hA
      by_cases ha : i < N
      · have haz : (i : Int) < (N : Int) := by omega
        have HEN : Hid (∀ w', As w lo g off n m Z fg foff fn fm B f k t F w.heap.size (w.heap.size + 1) (.slice (some ⟨g, o, none⟩) nT cT) (.slice (some ⟨fg, fo, none⟩) nF cF) (st : Int) (K : Int) (fst : Int) (N : Int) (lineI Fz px py (outX t F N lead r) ((i : Int) - (r : Int) - lead).toNat) i (wlo r (i : Int)) (whi N (i : Int)) w' → Si w' k t i F (fun _ => wlo r (i : Int)) (fun _ => (i : Int))) := by
          intro w' h'
          have := h'.s
          rwa [show whi N (i : Int) = (i : Int) by unfold whi mn; omega] at this
        have HPB : Hid (byteX (f (qx i) (qy i))) := by show byteX _; rw [← HF.out.1 i ha]; exact HF.out.2 _
        have HLE : Hid (wlo r (i : Int) ≤ (i : Int)) := by show _ ≤ _; unfold wlo mx; omega
        have HWD2 : Hid ((i : Int) - wlo r (i : Int) ≤ 511) := by show _ ≤ _; unfold wlo mx; omega
        have HHI : Hid (whi N ((i + 1 : Nat) : Int) = (i : Int) + 1) := by show _ = _; unfold whi mn; omega
        by_cases hbm : 0 ≤ (i : Int) - (r : Int) - lead
        · obtain ⟨j, hj⟩ : ∃ j : Nat, (i : Int) - (r : Int) - lead = (j : Int) := ⟨((i : Int) - (r : Int) - lead).toNat, by omega⟩
          have hjz : (0 : Int) ≤ (j : Int) := by omega
          have hjK : j < K := by omega
          have HWJ : Hid (wlo r (i : Int) < whi N ((i + 1 : Nat) : Int)) := by
            have := HWI.out j hjK
            show _ < _
            unfold wlo whi
            rwa [show (j : Int) + lead - (r : Int) = (i : Int) - 2 * (r : Int) by omega, show (j : Int) + lead + (r : Int) + 1 = ((i + 1 : Nat) : Int) by omega] at this
          have HJP : Hid (∀ p, Ext4 t F (wlo r (i : Int)) (whi N ((i + 1 : Nat) : Int)) p → putG (lineI Fz px py (outX t F N lead r) j) (py j) (px j) (px j + 1) (fun _ => p) = lineI Fz px py (outX t F N lead r) (j + 1)) := by
            intro p hp
            show _ = putG (lineI Fz px py (outX t F N lead r) j) (py j) (px j) (px j + 1) (fun _ => outX t F N lead r j)
            congr 1
            funext _
            unfold outX
            rw [show (j : Int) + lead - (r : Int) = (i : Int) - 2 * (r : Int) by omega, show (j : Int) + lead + (r : Int) + 1 = ((i + 1 : Nat) : Int) by omega]
            exact (extX_eq HWJ.out hp).symm
          have HMJ : Hid (((i : Int) - (r : Int) - lead).toNat = j) := by show _ = _; omega
          have HMJ2 : Hid ((((i + 1 : Nat) : Int) - (r : Int) - lead).toNat = j + 1) := by show _ = _; omega
          clear a0 a1 a2 af b0 b1 b2 bf
          obtain ⟨a0, a1, a2, af⟩ := HA1.out.t5
          obtain ⟨b0, b1, b2, bf⟩ := HA1.out.t6
          go_wp2_with (first | (go_at_call 53; with_reducible refine Calls.mono (at_any fg fo nF cF i fst (i * fst) (N : Int) _ rfl (HQ.out.n i ha) hnF) ?_; rintro e w3 ⟨rfl, hb3⟩; have HA2 := hid (HA1.out.below hb3); clear hb3; obtain ⟨q0, q1, q2, q3⟩ := HA2.out.read (HQ.out.h i ha) (HQ.out.p i ha)) | (go_at_call 52; with_reducible refine Calls.mono (senter_any k i t F (wlo r (i : Int)) (i : Int) _ _ (HEN.out _ HA2.out) (HF.out.1 i ha).symm (HPB.out) HLE.out HWD2.out hic) ?_; rintro e w4 ⟨rfl, hs4, hc4⟩; have HA3 := hid ((HA2.out.sight hs4 hc4).re rfl HHI.out); clear hs4 hc4 q0 q1 q2 q3; obtain ⟨a0, a1, a2, af⟩ := HA3.out.t5; obtain ⟨b0, b1, b2, bf⟩ := HA3.out.t6) | (go_at_call 53; with_reducible refine Calls.mono (at_any g o nT cT j st (j * st) (K : Int) _ rfl (HT.out.n j hjK) hnT) ?_; rintro e w5 ⟨rfl, hb5⟩; have HA4 := hid (HA3.out.below hb5); clear hb5) | (go_at_call 54; with_reducible refine Calls.mono (sextreme_any k i t F (wlo r (i : Int)) (whi N ((i + 1 : Nat) : Int)) _ HA4.out.s HF.out.2 HWJ.out) ?_; rintro e w6 ⟨p, rfl, hp6, hb6⟩; have HP6 := hid hp6; have HA5 := hid (HA4.out.below hb6); clear hp6 hb6; obtain ⟨u0, u1, u2, u3, e0, e1, e2, e3, f0, f1, f2, f3⟩ := HA5.out.four (HT.out.h j hjK) (HT.out.p j hjK); have HA6 := hid (HA5.out.pix (HT.out.h j hjK) (HT.out.p j hjK) p)) | (go_at_call 55; with_reducible refine Calls.mono (sleave_any k i t F (wlo r (i : Int)) (whi N ((i + 1 : Nat) : Int)) ((i : Int) - 2 * (r : Int)) (wlo r ((i + 1 : Nat) : Int)) _ HA6.out.s HLV.out HWD.out hic) ?_; rintro e w7 ⟨rfl, hs7, hc7⟩; have HA7 := hid (HA6.out.sight hs7 hc7); clear hs7 hc7))
          go_roundg (T - (i + 1))
          case measure => omega
          case rel =>
            refine ⟨i + 1, by omega, rfl, by simp, ?_⟩
            have h7 := HA7.out
            rw [HMJ.out, HJP.out p HP6.out] at h7
            rw [HMJ2.out]
            exact h7
        · have hbz : ¬ (0 : Int) ≤ (i : Int) - (r : Int) - lead := hbm
          have HMJ : Hid (((i : Int) - (r : Int) - lead).toNat = (((i + 1 : Nat) : Int) - (r : Int) - lead).toNat) := by show _ = _; omega
          go_wp2_with (first | (go_at_call 53; with_reducible refine Calls.mono (at_any fg fo nF cF i fst (i * fst) (N : Int) _ rfl (HQ.out.n i ha) hnF) ?_; rintro e w3 ⟨rfl, hb3⟩; have HA2 := hid (HA1.out.below hb3); clear hb3; obtain ⟨q0, q1, q2, q3⟩ := HA2.out.read (HQ.out.h i ha) (HQ.out.p i ha)) | (go_at_call 52; with_reducible refine Calls.mono (senter_any k i t F (wlo r (i : Int)) (i : Int) _ _ (HEN.out _ HA2.out) (HF.out.1 i ha).symm (HPB.out) HLE.out HWD2.out hic) ?_; rintro e w4 ⟨rfl, hs4, hc4⟩; have HA3 := hid ((HA2.out.sight hs4 hc4).re rfl HHI.out); clear hs4 hc4 q0 q1 q2 q3; obtain ⟨a0, a1, a2, af⟩ := HA3.out.t5; obtain ⟨b0, b1, b2, bf⟩ := HA3.out.t6) | (go_at_call 55; with_reducible refine Calls.mono (sleave_any k i t F (wlo r (i : Int)) (whi N ((i + 1 : Nat) : Int)) ((i : Int) - 2 * (r : Int)) (wlo r ((i + 1 : Nat) : Int)) _ HA3.out.s HLV.out HWD.out hic) ?_; rintro e w7 ⟨rfl, hs7, hc7⟩; have HA7 := hid (HA3.out.sight hs7 hc7); clear hs7 hc7))
          go_roundg (T - (i + 1))
          case measure => omega
          case rel =>
            refine ⟨i + 1, by omega, rfl, by simp, ?_⟩
            have h7 := HA7.out
            rw [HMJ.out] at h7
            exact h7
      · have haz : ¬ (i : Int) < (N : Int) := by omega
        have HA3 : Hid (As w lo g off n m Z fg foff fn fm B f k t F w.heap.size (w.heap.size + 1) (.slice (some ⟨g, o, none⟩) nT cT) (.slice (some ⟨fg, fo, none⟩) nF cF) (st : Int) (K : Int) (fst : Int) (N : Int) (lineI Fz px py (outX t F N lead r) ((i : Int) - (r : Int) - lead).toNat) i (wlo r (i : Int)) (whi N ((i + 1 : Nat) : Int)) wr) := HA1.out.re rfl (by unfold whi mn; omega)
        by_cases hbm : 0 ≤ (i : Int) - (r : Int) - lead
        · obtain ⟨j, hj⟩ : ∃ j : Nat, (i : Int) - (r : Int) - lead = (j : Int) := ⟨((i : Int) - (r : Int) - lead).toNat, by omega⟩
          have hjz : (0 : Int) ≤ (j : Int) := by omega
          have hjK : j < K := by omega
          have HWJ : Hid (wlo r (i : Int) < whi N ((i + 1 : Nat) : Int)) := by
            have := HWI.out j hjK
            show _ < _
            unfold wlo whi
            rwa [show (j : Int) + lead - (r : Int) = (i : Int) - 2 * (r : Int) by omega, show (j : Int) + lead + (r : Int) + 1 = ((i + 1 : Nat) : Int) by omega] at this
          have HJP : Hid (∀ p, Ext4 t F (wlo r (i : Int)) (whi N ((i + 1 : Nat) : Int)) p → putG (lineI Fz px py (outX t F N lead r) j) (py j) (px j) (px j + 1) (fun _ => p) = lineI Fz px py (outX t F N lead r) (j + 1)) := by
            intro p hp
            show _ = putG (lineI Fz px py (outX t F N lead r) j) (py j) (px j) (px j + 1) (fun _ => outX t F N lead r j)
            congr 1
            funext _
            unfold outX
            rw [show (j : Int) + lead - (r : Int) = (i : Int) - 2 * (r : Int) by omega, show (j : Int) + lead + (r : Int) + 1 = ((i + 1 : Nat) : Int) by omega]
            exact (extX_eq HWJ.out hp).symm
          have HMJ : Hid (((i : Int) - (r : Int) - lead).toNat = j) := by show _ = _; omega
          have HMJ2 : Hid ((((i + 1 : Nat) : Int) - (r : Int) - lead).toNat = j + 1) := by show _ = _; omega
          clear a0 a1 a2 af b0 b1 b2 bf
          obtain ⟨a0, a1, a2, af⟩ := HA1.out.t5
          obtain ⟨b0, b1, b2, bf⟩ := HA1.out.t6
          go_wp2_with (first | (go_at_call 53; with_reducible refine Calls.mono (at_any g o nT cT j st (j * st) (K : Int) _ rfl (HT.out.n j hjK) hnT) ?_; rintro e w5 ⟨rfl, hb5⟩; have HA4 := hid (HA3.out.below hb5); clear hb5) | (go_at_call 54; with_reducible refine Calls.mono (sextreme_any k i t F (wlo r (i : Int)) (whi N ((i + 1 : Nat) : Int)) _ HA4.out.s HF.out.2 HWJ.out) ?_; rintro e w6 ⟨p, rfl, hp6, hb6⟩; have HP6 := hid hp6; have HA5 := hid (HA4.out.below hb6); clear hp6 hb6; obtain ⟨u0, u1, u2, u3, e0, e1, e2, e3, f0, f1, f2, f3⟩ := HA5.out.four (HT.out.h j hjK) (HT.out.p j hjK); have HA6 := hid (HA5.out.pix (HT.out.h j hjK) (HT.out.p j hjK) p)) | (go_at_call 55; with_reducible refine Calls.mono (sleave_any k i t F (wlo r (i : Int)) (whi N ((i + 1 : Nat) : Int)) ((i : Int) - 2 * (r : Int)) (wlo r ((i + 1 : Nat) : Int)) _ HA6.out.s HLV.out HWD.out hic) ?_; rintro e w7 ⟨rfl, hs7, hc7⟩; have HA7 := hid (HA6.out.sight hs7 hc7); clear hs7 hc7))
          go_roundg (T - (i + 1))
          case measure => omega
          case rel =>
            refine ⟨i + 1, by omega, rfl, by simp, ?_⟩
            have h7 := HA7.out
            rw [HMJ.out, HJP.out p HP6.out] at h7
            rw [HMJ2.out]
            exact h7
        · have hbz : ¬ (0 : Int) ≤ (i : Int) - (r : Int) - lead := hbm
          have HMJ : Hid (((i : Int) - (r : Int) - lead).toNat = (((i + 1 : Nat) : Int) - (r : Int) - lead).toNat) := by show _ = _; omega
          go_wp2_with (first | (go_at_call 55; with_reducible refine Calls.mono (sleave_any k i t F (wlo r (i : Int)) (whi N ((i + 1 : Nat) : Int)) ((i : Int) - 2 * (r : Int)) (wlo r ((i + 1 : Nat) : Int)) _ HA3.out.s HLV.out HWD.out hic) ?_; rintro e w7 ⟨rfl, hs7, hc7⟩; have HA7 := hid (HA3.out.sight hs7 hc7); clear hs7 hc7))
          go_roundg (T - (i + 1))
          case measure => omega
          case rel =>
            refine ⟨i + 1, by omega, rfl, by simp, ?_⟩
            have h7 := HA7.out
            rw [HMJ.out] at h7
            exact h7
    · obtain rfl : T = i := by omega
      have HA1 := hid hA
      clear hA
      go_wp2
      refine bodyPost_end (v := .tuple #[]) (by simp [results, Try.results41, go_sem]) rfl ⟨rfl, ?_, HA1.out.s.sr, HA1.out.but⟩
      have := HA1.out.o
      rwa [show ((T : Int) - (r : Int) - lead).toNat = K by omega] at this
end Go.Proofs.Ytfkbdpbgeglgaaa
