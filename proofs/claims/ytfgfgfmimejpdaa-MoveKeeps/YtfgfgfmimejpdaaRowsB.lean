/- All rows' means: the contract. -/
import Derived.Test.YtfgfgfmimejpdaaRowsH
namespace Go.Proofs.Ytfgfgfmimejpdaa
open Num Go.RowKit
set_option linter.unusedVariables false
set_option linter.unusedSimpArgs false
attribute [local go_sem ↓] eqX Rc.run_min_i64 Rc.run_max_i64

/-- a part of a row, as a slice -/
theorem row_at (B : R) (n m g off : Nat) (a b y : Int) (k : Nat) (w : World) (ho : Ok B) (hi : In B a b y) (hk : b - a = (k : Int)) (hk0 : 0 < k) (hn : n = wid B * hei B) (hn5 : n ≤ 5000) (hnm : n ≤ m) (hm : m ≤ maxLen) :
    Calls Try.prog 85 #[.agg #[.int .i64 B.x0, .int .i64 B.y0, .int .i64 B.x1, .int .i64 B.y1, .slice (some ⟨g, off, none⟩) n m], .int .i64 a, .int .i64 b, .int .i64 y] w fun e w' => e = .returned (.slice (some ⟨g, off + posN B a y * 4, none⟩) k (m - posN B a y)) ∧ Below w.heap.size w w' := by
  obtain ⟨h1, h2, h3, h4, h5⟩ := hi
  have hp := pos_int (B := B) (x := a) (y := y) h3 h1 (by omega)
  have he := pos_end (B := B) (y := y) (a := a) (b := b) ⟨h1, h2⟩ h3 h4 h5
  have hs : ∃ s : Nat, (y - B.y0) * (B.x1 - B.x0) = (s : Int) := ⟨((y - B.y0) * (B.x1 - B.x0)).toNat, by have := Int.mul_nonneg (a := y - B.y0) (b := B.x1 - B.x0) (by omega) (by omega); omega⟩
  obtain ⟨s, hs⟩ := hs
  rw [hs] at hp
  obtain ⟨o1, o2, o3, o4⟩ := id ho
  exact row_any B.x0 B.y0 B.x1 B.y1 g off n m a b y s (posN B a y) k w ho (by omega) (by omega) (by omega) hs (by omega) (by omega) (by omega) (by omega) hnm hm hk0
theorem vx_row {w : World} {n m g off : Nat} {B : R} {f : Int → Int → X} (h : Vx w (some ⟨g, off, none⟩) n m g off (img B f)) {a b y : Int} (hi : In B a b y) {k : Nat} (hk : b - a = (k : Int)) :
    Vx w (some ⟨g, off + posN B a y * 4, none⟩) k (m - posN B a y) g (off + posN B a y * 4) (line (fun x => f x y) a b) := by
  have hl := vx_len h
  rw [img_len] at hl
  have hle := h.le
  have hmx := h.max
  have he := pos_end (B := B) (y := y) (a := a) (b := b) ⟨hi.y0, hi.y1⟩ hi.x0 hi.le hi.x1
  refine ⟨by rw [flat_len, line_len]; omega, by omega, by omega, fun _ => rfl, vx_line h hi⟩

/-- no pixel so far -/
def Bare (l : List X) (j : Nat) : Prop := ∀ i p, i < j → l[i]? = some p → p = noX
theorem bare_line {h : Int → X} {a b : Int} {k : Nat} (hk : b - a = (k : Int)) (hb : Bare (line h a b) k) (v : Int) (h1 : a ≤ v) (h2 : v < b) : h v = noX := by
  have := hb (v - a).toNat _ (by omega) (line_get h a b (by omega))
  rwa [show a + (((v - a).toNat : Nat) : Int) = v by omega] at this
/-- a buffer's cells -/
abbrev S5c (k : Nat) (Q : R) (v : Value) (w' : World) : Prop := w'.cell? ⟨k, 0, none⟩ = some (.int .i64 Q.x0) ∧ w'.cell? ⟨k, 1, none⟩ = some (.int .i64 Q.y0) ∧ w'.cell? ⟨k, 2, none⟩ = some (.int .i64 Q.x1) ∧ w'.cell? ⟨k, 3, none⟩ = some (.int .i64 Q.y1) ∧ w'.cell? ⟨k, 4, none⟩ = some v
theorem s5c_of {k : Nat} {Q : R} {ao : Option Addr} {n c : Nat} {w' : World} (h : Has5 w' k Q ao n c) : S5c k Q (.slice ao n c) w' := ⟨h.c0, h.c1, h.c2, h.c3, h.c4⟩
theorem s5c_below {k : Nat} {Q : R} {v : Value} {w1 w2 : World} (h : S5c k Q v w1) (hb : Below w1.heap.size w1 w2) : S5c k Q v w2 := by
  obtain ⟨c0, c1, c2, c3, c4⟩ := h
  have e1 := fun o => World.cell?_of_block (a := ⟨k, o, none⟩) (hb.block k (World.block_lt_of_cell? w1 ⟨k, 0, none⟩ c0))
  exact ⟨by rw [e1]; exact c0, by rw [e1]; exact c1, by rw [e1]; exact c2, by rw [e1]; exact c3, by rw [e1]; exact c4⟩
theorem s5c_drew {k : Nat} {Q : R} {v : Value} {w1 : World} (h : S5c k Q v w1) : S5c k Q v w1.drew := s5c_below h (Below.refl _ _).drew

set_option maxRecDepth 100000 in
set_option maxHeartbeats 8000000 in
theorem rows_some (B Q : R) (n m g off : Nat) (f : Int → Int → X) (r : Nat) (w : World) (hBo : Ok B) (hQo : Ok Q) (ha : area Q ≤ 5000) (hn : n ≤ 5000) (hr : r ≤ 255) (hF : Fits B Q r) (hV : Vx w (some ⟨g, off, none⟩) n m g off (img B f)) (hb : ∀ x y, byteX (f x y)) :
    Calls Try.prog 74 #[.agg #[.int .i64 B.x0, .int .i64 B.y0, .int .i64 B.x1, .int .i64 B.y1, .slice (some ⟨g, off, none⟩) n m], .agg #[.int .i64 Q.x0, .int .i64 Q.y0, .int .i64 Q.x1, .int .i64 Q.y1], .int .i64 (r : Int)] w fun e w' => RetB w.heap.size w' e Q (img Q (rowG (atX B f) r)) ∧ Below w.heap.size w w' := by
  have hnn : n = wid B * hei B := by have h1 := vx_len hV; rw [img_len] at h1; exact h1.symm
  have hgl : g < w.heap.size := vx_lt hV (by
      obtain ⟨h2, h3, h4, h5, ⟨h6, h7⟩, h8⟩ := hF
      have : 0 < wid B * hei B := Nat.mul_pos (by unfold wid; omega) (by unfold hei; omega)
      omega)
  have hQe : empB Q = false := emp_no hF.q.1 hF.q.2
  have HQ : Hid (orN ⟨Q.x0, Q.y0, Q.x1, Q.y1⟩ = Q) := orN_no hQe
  have HSZ := hid (size_of hQo hQe ha)
  obtain ⟨W0, hW0⟩ : ∃ W0, W0 = ((w.alloc (.cells #[.int .i64 B.x0, .int .i64 B.y0, .int .i64 B.x1, .int .i64 B.y1, .slice (some ⟨g, off, none⟩) n m] 26)).alloc (.cells #[.int .i64 Q.x0, .int .i64 Q.y0, .int .i64 Q.x1, .int .i64 Q.y1] 23)).alloc (.cells #[.int .i64 0, .int .i64 0, .int .i64 0, .int .i64 0, .slice none 0 0] 26) := ⟨_, rfl⟩
  have HA : Hid (Has5 W0 w.heap.size B (some ⟨g, off, none⟩) n m ∧ Rc.Has4 W0 (w.heap.size + 1) (.int .i64 Q.x0) (.int .i64 Q.y0) (.int .i64 Q.x1) (.int .i64 Q.y1) ∧ Has5 W0 (w.heap.size + 1 + 1) ⟨0, 0, 0, 0⟩ none 0 0 ∧ Below w.heap.size w W0 ∧ W0.heap.size = w.heap.size + 1 + 1 + 1) := by
    subst hW0
    exact ⟨((Has5.new rfl _ _ _ _ _ _ _ _).alloc _).alloc _, (Rc.Has4.new (by simp) _ _ _ _ _).alloc _, Has5.new (by simp) _ _ _ _ _ _ _ _, (((Below.refl _ _).alloc (Nat.le_refl _) _).alloc (by simp) _).alloc (by simp; omega) _, by simp⟩
  subst hW0
  obtain ⟨q0, q1, q2, q3, qf⟩ := HA.out.2.1
  have HH := hid (And.intro hV (And.intro hBo (And.intro hQo (And.intro ha (And.intro hF hb)))))
  have hnm : n ≤ m := hV.le
  have hmx : m ≤ maxLen := hV.max
  obtain ⟨⟨i0, i1⟩, ⟨i2, i3⟩, ⟨i4, i5⟩, i6, i7⟩ := hBo
  obtain ⟨⟨j0, j1⟩, ⟨j2, j3⟩, ⟨j4, j5⟩, j6, j7⟩ := hQo
  obtain ⟨f0, f1, f2, f3, ⟨f4, f5⟩, f6⟩ := hF
  clear hV ha hb hQe
  obtain ⟨A0, hA0⟩ : ∃ A0, A0 = firstX B Q r := ⟨_, rfl⟩
  obtain ⟨A1, hA1⟩ : ∃ A1, A1 = endX B Q r := ⟨_, rfl⟩
  have e0 : mx B.x0 (Q.x0 - (r : Int)) = A0 := hA0.symm
  have e1 : mn B.x1 (Q.x1 + (r : Int)) = A1 := hA1.symm
  have z0 : B.x0 ≤ A0 ∧ A0 < A1 ∧ A1 ≤ B.x1 ∧ -(r : Int) ≤ Q.x0 - A0 ∧ Q.x0 - A0 ≤ (r : Int) := by rw [hA0, hA1]; unfold firstX endX mx mn; omega
  obtain ⟨z0, z1, z2, z3, z4⟩ := z0
  obtain ⟨KA, hKA⟩ : ∃ KA : Nat, A1 - A0 = (KA : Int) := ⟨(A1 - A0).toNat, by omega⟩
  obtain ⟨KQ, hKQ⟩ : ∃ KQ : Nat, Q.x1 - Q.x0 = (KQ : Int) := ⟨(Q.x1 - Q.x0).toNat, by omega⟩
  have hKA5 : KA ≤ 5000 := by
    have h1 : wid B ≤ wid B * hei B := Nat.le_mul_of_pos_right _ (by unfold hei; omega)
    have h2 : KA ≤ wid B := by unfold wid; omega
    omega
  have hKQ5 : KQ ≤ 5000 := by
    have h1 : wid Q ≤ wid Q * hei Q := Nat.le_mul_of_pos_right _ (by unfold hei; omega)
    have h2 : KQ ≤ wid Q := by unfold wid; omega
    have := HSZ.out.2.1
    omega
  have HE := hid (And.intro hA0 hA1)
  have HK := hid (And.intro hKA hKQ)
  have HNN := hid hnn
  have hKA0 : 0 < KA := by omega
  have hKQ0 : 0 < KQ := by omega
  clear hA0 hA1 hKA hKQ hnn
  go_enter Try.func74, Try.ntmps74
  go_wp2_with (first
    | (go_at_call 36; with_reducible refine Calls.mono (new_any Q.x0 Q.y0 Q.x1 Q.y1 _ HH.out.2.2.1 HH.out.2.2.2.1) ?_; rintro e w1 ⟨hr, hb1⟩; rw [HQ.out] at hr; obtain ⟨no, nn, nm, ng, noff, rfl, hO, hg1, hg2, hln⟩ := retG hr; have HL := hid (And.intro hO (And.intro hg1 (And.intro hg2 hln))); have HB1 := hid hb1; clear hr hb1 hO hg1 hg2 hln; obtain ⟨p0, p1, p2, p3, p4, pf⟩ := (HA.out.1.below HB1.out).alloc (.cells #[.int .i64 Q.x0, .int .i64 Q.y0, .int .i64 Q.x1, .int .i64 Q.y1, .slice no nn nm] 26)))
  have HNN2 : Hid (nn = wid Q * hei Q) := by have := HL.out.2.2.2; rw [img_len] at this; exact this.symm
  have hnm2 : nn ≤ nm := HL.out.1.v.le
  have hmx2 : nm ≤ maxLen := HL.out.1.v.max
  have hnn5 : nn ≤ 5000 := by have := HSZ.out.2.1; have := HNN2.out; omega
  have hnn0 : 0 < nn := by have := HSZ.out.2.2; have := HNN2.out; omega
  obtain rfl : no = some ⟨ng, noff, none⟩ := HL.out.1.v.addr (by omega)
  have HW : Hid (Ws w w.heap.size (w.heap.size + 1 + 1) w1.heap.size B Q n m g off nn nm ng noff f (tillG (rowG (atX B f) r) Q.y0) (w1.alloc (.cells #[.int .i64 Q.x0, .int .i64 Q.y0, .int .i64 Q.x1, .int .i64 Q.y1, .slice (some ⟨ng, noff, none⟩) nn nm] 26))) := by
    have h1 := HB1.out
    have h2 := HL.out.2.1
    have h3 := HA.out.2.2.2.2
    rw [h3] at h2
    have h4 := HL.out.2.2.1 (by omega)
    have hal : Below w1.heap.size w1 (w1.alloc (.cells #[.int .i64 Q.x0, .int .i64 Q.y0, .int .i64 Q.x1, .int .i64 Q.y1, .slice (some ⟨ng, noff, none⟩) nn nm] 26)) := (Below.refl _ _).alloc (Nat.le_refl _) _
    refine ⟨(HA.out.1.below h1).below hal, (HA.out.2.2.1.below h1).below hal, Has5.new rfl _ _ _ _ _ _ _ _, ?_, (HH.out.1.below (Rc.via HA.out.2.2.2.1 h1)).below hal, Rc.via (Rc.via HA.out.2.2.2.1 h1) hal, by omega, by omega, by omega, by omega, by omega, by simp; omega⟩
    rw [← till_first]
    exact (HL.out.1.below hal).mono (by rw [h3]; omega)
  clear p0 p1 p2 p3 p4 pf q0 q1 q2 q3 qf HL
  generalize w1.alloc (.cells #[.int .i64 Q.x0, .int .i64 Q.y0, .int .i64 Q.x1, .int .i64 Q.y1, .slice (some ⟨ng, noff, none⟩) nn nm] 26) = W1 at HW ⊢
  generalize w1.heap.size = k7 at HW ⊢
  go_loopg [10] (Q.y1 - Q.y0).toNat (fun gh v10 wr => ∃ y, Q.y0 ≤ y ∧ y ≤ Q.y1 ∧ gh = (Q.y1 - y).toNat ∧ v10 = .int .i64 y ∧ Ws w w.heap.size (w.heap.size + 1 + 1) k7 B Q n m g off nn nm ng noff f (tillG (rowG (atX B f) r) y) wr)
  case atStart => exact ⟨Q.y0, Int.le_refl _, by omega, rfl, rfl, HW.out⟩
  case round =>
    clear HW
    obtain ⟨y, hy0, hy1, rfl, rfl, hW⟩ := hrel
    have HW := hid hW
    obtain ⟨b0, b1, b2, b3, b4, bf⟩ := hW.h
    by_cases hlt : y < Q.y1
    · obtain ⟨s0, s1, s2, s3, s4, sf⟩ := hW.s
      clear hW
      have HI : Hid (In B A0 A1 y ∧ In Q Q.x0 Q.x1 y) := ⟨⟨by omega, by omega, by omega, by omega, by omega⟩, ⟨by omega, by omega, by omega, by omega, by omega⟩⟩
      have HFT : Hid (Fits B Q r) := HH.out.2.2.2.2.1
      go_wp2
      refine wp_scope_two (by rfl) (by rfl) ?_
      intro Q1 hg0 hg1 hgn
      go_wp2_with (go_at_call 85; with_reducible refine Calls.mono (row_at B n m g off A0 A1 y KA _ HH.out.2.1 HI.out.1 HK.out.1 hKA0 HNN.out hn hnm hmx) ?_; rintro e w2 ⟨rfl, hb2⟩; have HW2 := hid (HW.out.below hb2); clear hb2)
      clear b0 b1 b2 b3 b4 bf s0 s1 s2 s3 s4 sf
      obtain ⟨L, hL⟩ : ∃ L, L = line (fun x => f x y) A0 A1 := ⟨_, rfl⟩
      have HL := hid hL
      have HLL : Hid (L.length = KA) := by show L.length = KA; rw [hL, line_len]; have := HK.out.1; omega
      clear hL
      go_loopg [51] KA (fun gh v51 wr2 => ∃ j : Nat, j ≤ KA ∧ gh = KA - j ∧ v51 = .int .i64 (j : Int) ∧ Bare L j ∧ Ws w w.heap.size (w.heap.size + 1 + 1) k7 B Q n m g off nn nm ng noff f (tillG (rowG (atX B f) r) y) wr2)
      case atStart => exact ⟨0, Nat.zero_le _, rfl, rfl, fun i p h => absurd h (Nat.not_lt_zero _), HW2.out⟩
      case round =>
        clear HW HW2
        obtain ⟨j, hj, rfl, rfl, hbare, hW⟩ := hrel
        have HW := hid hW
        have HBR := hid hbare
        clear hbare
        by_cases hjl : j < KA
        · have hjz : (j : Int) < (KA : Int) := by omega
          obtain ⟨p, hp⟩ : ∃ p, L[j]? = some p := ⟨_, List.getElem?_eq_getElem (by rw [HLL.out]; exact hjl)⟩
          have HP := hid hp
          obtain ⟨-, t0, t1, t2, t3⟩ := vx_at (HL.out ▸ vx_row HW.out.v HI.out.1 HK.out.1) hp
          clear hp hW
          by_cases hpz : p = noX
          · have hq : eqB p.c0 p.c1 p.c2 p.c3 0 0 0 0 = true := eqB_yes (q := noX) hpz
            have HPZ := hid hpz
            clear hpz
            go_wp2
            go_roundg (KA - (j + 1))
            case measure => omega
            case rel =>
              refine ⟨j + 1, by omega, rfl, by simp, ?_, HW.out.below ((Below.refl _ _).alloc (Nat.le_refl _) _)⟩
              intro i p' hi hp'
              by_cases hij : i < j
              · exact HBR.out i p' hij hp'
              · obtain rfl : i = j := by omega
                have := HP.out
                rw [hp'] at this
                injection this with this
                rw [this]
                exact HPZ.out
          · have hq : eqB p.c0 p.c1 p.c2 p.c3 0 0 0 0 = false := eqB_no (q := noX) hpz
            clear hpz
            go_wp2
            go_step3
            refine hg0 _ _ ?_
            intro Q2 hq1 hqn
            clear t0 t1 t2 t3
            have HW3 := hid (HW.out.below ((Below.refl _ _).alloc (Nat.le_refl _) (.cells #[.int .u8 p.c0, .int .u8 p.c1, .int .u8 p.c2, .int .u8 p.c3] 28)))
            generalize wr.alloc (.cells #[.int .u8 p.c0, .int .u8 p.c1, .int .u8 p.c2, .int .u8 p.c3] 28) = wr3 at HW3 ⊢
            clear HW
            obtain ⟨c0, c1, c2, c3, c4, cf⟩ := HW3.out.h
            have hS : S5c k7 Q (.slice (some ⟨ng, noff, none⟩) nn nm) wr3 := ⟨c0, c1, c2, c3, c4⟩
            have HD : Hid (∀ w', Below wr3.heap.size wr3 w' → Vx w' (some ⟨g, off + posN B A0 y * 4, none⟩) KA (m - posN B A0 y) g (off + posN B A0 y * 4) L ∧ Room w' ng (noff + posN Q Q.x0 y * 4) KQ ∧ ng < w'.heap.size ∧ g < w'.heap.size) := by
              intro w' hb'
              have h1 := HW3.out.below hb'
              refine ⟨HL.out ▸ vx_row h1.v HI.out.1 HK.out.1, ?_, h1.lt, Nat.lt_of_lt_of_le hgl h1.low.size⟩
              have h2 := h1.room HI.out.2
              rwa [show (Q.x1 - Q.x0).toNat = KQ by have := HK.out.2; omega] at h2
            have HBY : Hid (∀ p, p ∈ L → byteX p) := by
              intro p' hp'
              rw [HL.out] at hp'
              unfold line at hp'
              obtain ⟨i, -, rfl⟩ := List.mem_map.1 hp'
              exact HH.out.2.2.2.2.2 _ _
            have HCV : Hid (line (rowF L (Q.x0 - A0) r) 0 (KQ : Int) = line (fun x => rowG (atX B f) r x y) Q.x0 Q.x1) := by
              show line (rowF L (Q.x0 - A0) r) 0 (KQ : Int) = _
              rw [← line_shift (fun x => rowG (atX B f) r x y), HK.out.2]
              apply line_ext
              intro x h1 h2
              rw [HL.out, HE.out.1, HE.out.2]
              have := row_plane HFT.out (f := f) (x := Q.x0 + x) (y := y) (by have := HK.out.2; omega) ⟨hy0, hlt⟩
              rwa [show Q.x0 + x - Q.x0 = x by omega] at this
            have hsub : IntKind.i64.wrap (Q.x0 - A0) = Q.x0 - A0 := by rw [IntKind.wrap_i64]; omega
            go_wp2
            go_region_held3 (fun w' => w'.cell? ⟨k7, 0, none⟩ = some (.int .i64 Q.x0) ∧ w'.cell? ⟨k7, 1, none⟩ = some (.int .i64 Q.y0) ∧ w'.cell? ⟨k7, 2, none⟩ = some (.int .i64 Q.x1) ∧ w'.cell? ⟨k7, 3, none⟩ = some (.int .i64 Q.y1) ∧ w'.cell? ⟨k7, 4, none⟩ = some (.slice (some ⟨ng, noff, none⟩) nn nm)) (repeat (first | with_reducible assumption | with_reducible refine s5c_drew ?_ | with_reducible refine s5c_below ?_ ‹_›))
              ((first
                | (go_at_call 85; with_reducible refine Calls.mono (row_at Q nn nm ng noff Q.x0 Q.x1 y KQ _ HH.out.2.2.1 HI.out.2 HK.out.2 hKQ0 HNN2.out hnn5 hnm2 hmx2) ?_; rintro e w4 ⟨rfl, hb4⟩; have HB4 := hid (Rc.via ((Below.refl wr3.heap.size wr3).drew) hb4))
                | (go_at_call 86; with_reducible refine Calls.mono (alongRow_any ng (noff + posN Q Q.x0 y * 4) KQ (nm - posN Q Q.x0 y) KA (m - posN B A0 y) g (off + posN B A0 y * 4) L (Q.x0 - A0) r _ (HD.out _ HB4.out).1 (HD.out _ HB4.out).2.1 (HD.out _ HB4.out).2.2.1 (HD.out _ HB4.out).2.2.2 HW3.out.ag HBY.out hr z3 z4 (by omega) (by omega)) ?_; rintro e w5 ⟨rfl, hc5, hl5⟩; have HW5 := hid ((HW3.out.below HB4.out).row HI.out.2 (hh := fun x => rowG (atX B f) r x y) (by rw [show (Q.x1 - Q.x0).toNat = KQ by have := HK.out.2; omega]; exact hc5) (by rw [← HCV.out]; exact hl5)); clear hc5 hl5; have hS5 := s5c_of HW5.out.h)))
            go_wp2
            go_step3
            go_wp2
            refine hqn _ _ _ (by intro l h; cases h) ?_
            go_wp2
            go_roundg (Q.y1 - (y + 1)).toNat
            case measure => omega
            case rel => exact ⟨y + 1, by omega, by omega, rfl, rfl, HW5.out.re till_row⟩
        · obtain rfl : KA = j := by omega
          clear hW
          go_wp2
          go_step3
          refine hg1 _ _ ?_
          intro Q3 hq3
          go_wp2
          refine hq3 _ _ _ (by intro l h; cases h) ?_
          go_wp2
          go_roundg (Q.y1 - (y + 1)).toNat
          case measure => omega
          case rel => exact ⟨y + 1, by omega, by omega, rfl, rfl, HW.out.re (till_none (fun x h1 h2 => row_none' HFT.out ⟨hy0, hlt⟩ (fun v h3 h4 => bare_line HK.out.1 (HL.out ▸ HBR.out) v (by rw [HE.out.1]; exact h3) (by rw [HE.out.2]; exact h4)) x h1 h2))⟩
    · obtain rfl : Q.y1 = y := by omega
      obtain ⟨z0, z1, z2, z3, z4, zf⟩ := hW.z
      clear hW
      go_wp2
      obtain ⟨s0, s1, s2, s3, s4⟩ := set5 z0 z1 z2 z3 z4 (.int .i64 Q.x0) (.int .i64 Q.y0) (.int .i64 Q.x1) (.int .i64 Q.y1) (.slice (some ⟨ng, noff, none⟩) nn nm)
      refine bodyPost_ret (v := .agg #[.int .i64 Q.x0, .int .i64 Q.y0, .int .i64 Q.x1, .int .i64 Q.y1, .slice (some ⟨ng, noff, none⟩) nn nm]) (by simp [results, Try.results74, go_sem, s0, s1, s2, s3, s4]) rfl ⟨⟨_, _, _, ng, noff, rfl, ?_⟩, ?_⟩
      · have hx := HW.out.o
        rw [till_last] at hx
        exact hx.but (but_set5 _ _ _ _ _ _ _) (fun _ => Ne.symm HW.out.a6)
      · exact below_set5 HW.out.low (by omega) _ _ _ _ _
end Go.Proofs.Ytfgfgfmimejpdaa
