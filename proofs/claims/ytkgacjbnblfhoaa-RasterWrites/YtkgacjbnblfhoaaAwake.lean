/- The law's own answers that the document fixes: the contract. -/
import Derived.Test.YtkgacjbnblfhoaaWins
import Derived.Test.YtkgacjbnblfhoaaPutB
import Derived.Test.YtkgacjbnblfhoaaSameB
namespace Go.Proofs.Ytkgacjbnblfhoaa
open Num Go.RowKit
set_option linter.unusedVariables false
set_option linter.unusedSimpArgs false
attribute [local go_sem ↓] eqPx

/-- the pixel, and the buffer with it -/
def qA : R := ⟨1, 1, 3, 3⟩
def fA : Int → Int → X := onePx qA 2 1 ⟨1, 2, 3, 4⟩ (fun _ _ => noX)

abbrev SA (k kp ng noff nm : Nat) (Q : R) (w' : World) : Prop := w'.cell? ⟨k, 0, none⟩ = some (.int .i64 Q.x0) ∧ w'.cell? ⟨k, 1, none⟩ = some (.int .i64 Q.y0) ∧ w'.cell? ⟨k, 2, none⟩ = some (.int .i64 Q.x1) ∧ w'.cell? ⟨k, 3, none⟩ = some (.int .i64 Q.y1) ∧ w'.cell? ⟨k, 4, none⟩ = some (.slice (some ⟨ng, noff, none⟩) 4 nm) ∧ w'.cell? ⟨kp, 0, none⟩ = some (.int .u8 1) ∧ w'.cell? ⟨kp, 1, none⟩ = some (.int .u8 2) ∧ w'.cell? ⟨kp, 2, none⟩ = some (.int .u8 3) ∧ w'.cell? ⟨kp, 3, none⟩ = some (.int .u8 4) ∧ w'.cell? ⟨ng, noff + 4, none⟩ = some (.int .u8 1) ∧ w'.cell? ⟨ng, noff + 4 + 1, none⟩ = some (.int .u8 2) ∧ w'.cell? ⟨ng, noff + 4 + 2, none⟩ = some (.int .u8 3) ∧ w'.cell? ⟨ng, noff + 4 + 3, none⟩ = some (.int .u8 4) ∧ w'.cell? ⟨ng, noff + 2 * 4, none⟩ = some (.int .u8 0) ∧ w'.cell? ⟨ng, noff + 2 * 4 + 1, none⟩ = some (.int .u8 0) ∧ w'.cell? ⟨ng, noff + 2 * 4 + 2, none⟩ = some (.int .u8 0) ∧ w'.cell? ⟨ng, noff + 2 * 4 + 3, none⟩ = some (.int .u8 0)
theorem sA_below {k kp ng noff nm : Nat} {Q : R} {w1 w2 : World} (h : SA k kp ng noff nm Q w1) (hb : Below w1.heap.size w1 w2) : SA k kp ng noff nm Q w2 := by
  obtain ⟨c0, c1, c2, c3, c4, c5, c6, c7, c8, c9, c10, c11, c12, c13, c14, c15, c16⟩ := h
  have e1 := fun o => World.cell?_of_block (a := ⟨k, o, none⟩) (hb.block k (World.block_lt_of_cell? w1 ⟨k, 0, none⟩ c0))
  have e2 := fun o => World.cell?_of_block (a := ⟨kp, o, none⟩) (hb.block kp (World.block_lt_of_cell? w1 ⟨kp, 0, none⟩ c5))
  have e3 := fun o => World.cell?_of_block (a := ⟨ng, o, none⟩) (hb.block ng (World.block_lt_of_cell? w1 ⟨ng, noff + 4, none⟩ c9))
  exact ⟨by rw [e1]; exact c0, by rw [e1]; exact c1, by rw [e1]; exact c2, by rw [e1]; exact c3, by rw [e1]; exact c4, by rw [e2]; exact c5, by rw [e2]; exact c6, by rw [e2]; exact c7, by rw [e2]; exact c8, by rw [e3]; exact c9, by rw [e3]; exact c10, by rw [e3]; exact c11, by rw [e3]; exact c12, by rw [e3]; exact c13, by rw [e3]; exact c14, by rw [e3]; exact c15, by rw [e3]; exact c16⟩
theorem sA_drew {k kp ng noff nm : Nat} {Q : R} {w1 : World} (h : SA k kp ng noff nm Q w1) : SA k kp ng noff nm Q w1.drew := sA_below h (Below.refl _ _).drew
theorem aw_ne {w : World} {o1 : Obj} {g' : Nat} (h' : (w.alloc o1).heap.size ≤ g') : w.heap.size ≠ g' := by simp at h'; omega
theorem aw_low {w w1 w2 : World} {o1 : Obj} {g' : Nat} (h : Below w.heap.size w w1) (hb : But g' w1 w2) (h' : (w.alloc o1).heap.size ≤ g') : Below w.heap.size w w2 := h.trans (hb.low (by simp at h'; omega) h.size)

set_option maxRecDepth 100000 in
set_option maxHeartbeats 2000000 in
theorem awake_any (w : World) : Calls Try.prog 6 #[] w fun e w' => e = .returned (.bool true) ∧ Below w.heap.size w w' := by
  obtain ⟨Q, hQ⟩ : ∃ Q, Q = qA := ⟨_, rfl⟩
  have HQ : Hid (orN ⟨1, 1, 3, 3⟩ = Q ∧ Q = qA) := ⟨by rw [hQ]; decide, hQ⟩
  have HU : Hid (Ok ⟨1, 1, 3, 3⟩ ∧ area ⟨1, 1, 3, 3⟩ ≤ 5000 ∧ Ok Q ∧ bufB Q 4 = true ∧ wid Q * hei Q = 4) := by
    refine ⟨?_, ?_, ?_, ?_, ?_⟩
    · unfold Ok; decide
    · decide
    · rw [hQ]; unfold Ok; decide
    · rw [hQ]; decide
    · rw [hQ]; decide
  have HF : Hid (onePx Q 3 1 ⟨1, 2, 3, 4⟩ (onePx Q 2 1 ⟨1, 2, 3, 4⟩ fun _ _ => noX) = fA ∧ atX Q fA 2 1 = ⟨1, 2, 3, 4⟩ ∧ atX Q fA 3 1 = ⟨0, 0, 0, 0⟩ ∧ (img Q fA)[1]? = some ⟨1, 2, 3, 4⟩ ∧ (img Q fA)[2]? = some ⟨0, 0, 0, 0⟩) := by
    rw [hQ]
    refine ⟨?_, by decide, by decide, by decide, by decide⟩
    unfold onePx fA
    rw [if_neg (by decide)]
    rfl
  have HN : Hid ((-9000000000000 : Int) ≤ 1 ∧ (1 : Int) ≤ 9000000000000 ∧ (-9000000000000 : Int) ≤ 2 ∧ (2 : Int) ≤ 9000000000000 ∧ (-9000000000000 : Int) ≤ 3 ∧ (3 : Int) ≤ 9000000000000) := by
    show _ ∧ _; omega
  have HB : Hid (Below w.heap.size w (w.alloc (.cells #[.int .u8 1, .int .u8 2, .int .u8 3, .int .u8 4] 28))) := (Below.refl _ _).alloc (Nat.le_refl _) _
  have HP : Hid (Rc.Has4 (w.alloc (.cells #[.int .u8 1, .int .u8 2, .int .u8 3, .int .u8 4] 28)) w.heap.size (.int .u8 1) (.int .u8 2) (.int .u8 3) (.int .u8 4)) := Rc.Has4.new rfl _ _ _ _ _
  clear hQ
  go_enter Try.func6, Try.ntmps6
  go_wp2_with (first
    | (go_at_call 22; with_reducible refine Calls.mono (new_any 1 1 3 3 _ HU.out.1 HU.out.2.1) ?_; rintro e w1 ⟨hr, hb1⟩; rw [HQ.out.1] at hr; obtain ⟨no, nn, nm, ng, noff, rfl, hO, hg1, hg2, hln⟩ := retG hr; rw [img_len, HU.out.2.2.2.2] at hln; subst hln; have HL := hid (And.intro hg1 hg2); have HB2 := hid ((Rc.via HB.out hb1).alloc (Rc.via HB.out hb1).size (.cells #[.int .i64 Q.x0, .int .i64 Q.y0, .int .i64 Q.x1, .int .i64 Q.y1, .slice no 4 nm] 26)); have HP2 := hid ((HP.out.below hb1).alloc (.cells #[.int .i64 Q.x0, .int .i64 Q.y0, .int .i64 Q.x1, .int .i64 Q.y1, .slice no 4 nm] 26)); have HN2 := hid (Has5.new (W := w1) (k := w1.heap.size) rfl Q.x0 Q.y0 Q.x1 Q.y1 no 4 nm 26); have HO2 := hid (hO.below ((Below.refl _ _).alloc (Nat.le_refl _) (.cells #[.int .i64 Q.x0, .int .i64 Q.y0, .int .i64 Q.x1, .int .i64 Q.y1, .slice no 4 nm] 26))); have hz1 := hb1.size; clear hr hb1 hO hg1 hg2; obtain ⟨p0, p1, p2, p3, pf⟩ := HP2.out)
    | (go_at_call 23; with_reducible refine Calls.mono (put_any _ w1.heap.size ng noff 4 nm no Q (fun _ _ => noX) 2 1 ⟨1, 2, 3, 4⟩ _ HU.out.2.2.1 (by omega) ⟨HN.out.2.2.1, HN.out.2.2.2.1⟩ ⟨HN.out.1, HN.out.2.1⟩ HN2.out HO2.out (fun hm => Nat.ne_of_gt (HL.out.2 hm))) ?_; rintro e w2 ⟨rfl, h5, hO, hbu⟩; have HN3 := hid h5; have HO3 := hid hO; have HP3 := hid (has4_but HP2.out hbu (aw_ne HL.out.1)); have HB3 := hid (aw_low HB2.out hbu HL.out.1); clear h5 hO hbu p0 p1 p2 p3 pf; obtain ⟨p0, p1, p2, p3, pf⟩ := HP3.out)
    | (go_at_call 23; with_reducible refine Calls.mono (put_any _ w1.heap.size ng noff 4 nm no Q _ 3 1 ⟨1, 2, 3, 4⟩ _ HU.out.2.2.1 (by omega) ⟨HN.out.2.2.2.2.1, HN.out.2.2.2.2.2⟩ ⟨HN.out.1, HN.out.2.1⟩ HN3.out HO3.out (fun hm => Nat.ne_of_gt (HL.out.2 hm))) ?_; rintro e w3 ⟨rfl, h5, hO, hbu⟩; rw [HF.out.1] at hO; have HN4 := hid h5; have HO4 := hid hO; have HP4 := hid (has4_but HP3.out hbu (aw_ne HL.out.1)); have HB4 := hid (aw_low HB3.out hbu HL.out.1); clear h5 hO hbu p0 p1 p2 p3 pf))
  obtain ⟨p0, p1, p2, p3, pf⟩ := HP4.out
  obtain ⟨hno, a0, a1, a2, a3⟩ := vx_at HO4.out.v HF.out.2.2.2.1
  obtain ⟨-, b0, b1, b2, b3⟩ := vx_at HO4.out.v HF.out.2.2.2.2
  subst hno
  obtain ⟨r0, r1, r2, r3, r4, rf⟩ := HN4.out
  rw [Nat.one_mul] at a0 a1 a2 a3
  have hS : SA w1.heap.size w.heap.size ng noff nm Q w3 := ⟨r0, r1, r2, r3, r4, p0, p1, p2, p3, a0, a1, a2, a3, b0, b1, b2, b3⟩
  go_region_held3 (fun w' => w'.cell? ⟨w1.heap.size, 0, none⟩ = some (.int .i64 Q.x0) ∧ w'.cell? ⟨w1.heap.size, 1, none⟩ = some (.int .i64 Q.y0) ∧ w'.cell? ⟨w1.heap.size, 2, none⟩ = some (.int .i64 Q.x1) ∧ w'.cell? ⟨w1.heap.size, 3, none⟩ = some (.int .i64 Q.y1) ∧ w'.cell? ⟨w1.heap.size, 4, none⟩ = some (.slice (some ⟨ng, noff, none⟩) 4 nm) ∧ w'.cell? ⟨w.heap.size, 0, none⟩ = some (.int .u8 1) ∧ w'.cell? ⟨w.heap.size, 1, none⟩ = some (.int .u8 2) ∧ w'.cell? ⟨w.heap.size, 2, none⟩ = some (.int .u8 3) ∧ w'.cell? ⟨w.heap.size, 3, none⟩ = some (.int .u8 4) ∧ w'.cell? ⟨ng, noff + 4, none⟩ = some (.int .u8 1) ∧ w'.cell? ⟨ng, noff + 4 + 1, none⟩ = some (.int .u8 2) ∧ w'.cell? ⟨ng, noff + 4 + 2, none⟩ = some (.int .u8 3) ∧ w'.cell? ⟨ng, noff + 4 + 3, none⟩ = some (.int .u8 4) ∧ w'.cell? ⟨ng, noff + 2 * 4, none⟩ = some (.int .u8 0) ∧ w'.cell? ⟨ng, noff + 2 * 4 + 1, none⟩ = some (.int .u8 0) ∧ w'.cell? ⟨ng, noff + 2 * 4 + 2, none⟩ = some (.int .u8 0) ∧ w'.cell? ⟨ng, noff + 2 * 4 + 3, none⟩ = some (.int .u8 0)) (repeat (first | with_reducible assumption | with_reducible refine sA_drew ?_ | with_reducible refine sA_below ?_ ‹_›))
    ((first
    | (go_at_call 24; with_reducible refine Calls.mono (at_any Q _ 4 nm ng noff fA 2 1 _ HU.out.2.2.1 (by omega) ⟨HN.out.2.2.1, HN.out.2.2.2.1⟩ ⟨HN.out.1, HN.out.2.1⟩ (HO4.out.v.below (Below.refl _ _).drew)) ?_; rintro e w4 ⟨rfl, hb4⟩; rw [HF.out.2.1]; have HO5 := hid (HO4.out.v.below (Rc.via (Below.refl _ _).drew hb4)); have HB5 := hid (Rc.via HB4.out.drew hb4))
    | (go_at_call 24; with_reducible refine Calls.mono (at_any Q _ 4 nm ng noff fA 3 1 _ HU.out.2.2.1 (by omega) ⟨HN.out.2.2.2.2.1, HN.out.2.2.2.2.2⟩ ⟨HN.out.1, HN.out.2.1⟩ HO5.out) ?_; rintro e w5 ⟨rfl, hb5⟩; rw [HF.out.2.2.1]; have HB6 := hid (Rc.via HB5.out hb5))
    | (go_at_call 25; with_reducible refine Calls.mono (rasterRight_yes Q.x0 Q.y0 Q.x1 Q.y1 _ 4 nm _ (by omega) HU.out.2.2.2.1) ?_; rintro e w6 ⟨rfl, hb6⟩; have HB7 := hid (Rc.via HB6.out hb6))))
  go_wp2
  go_ret
  exact ⟨rfl, HB7.out⟩
end Go.Proofs.Ytkgacjbnblfhoaa
