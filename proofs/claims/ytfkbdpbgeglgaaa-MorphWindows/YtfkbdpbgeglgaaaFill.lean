/- An area is filled: the contract. -/
import Derived.Test.YtfkbdpbgeglgaaaFillH
import Derived.Test.YtfkbdpbgeglgaaaTill
namespace Go.Proofs.Ytfkbdpbgeglgaaa
open Num Go.RowKit
set_option linter.unusedVariables false
set_option linter.unusedSimpArgs false
attribute [local go_sem ↓] Rc.run_min_i64 Rc.run_max_i64

/-- cells of two buffers and a rectangle -/
abbrev S14 (ka kb kc : Nat) (A : R) (va : Value) (B : R) (vb : Value) (M : R) (w' : World) : Prop := (w'.cell? ⟨ka, 0, none⟩ = some (.int .i64 A.x0) ∧ w'.cell? ⟨ka, 1, none⟩ = some (.int .i64 A.y0) ∧ w'.cell? ⟨ka, 2, none⟩ = some (.int .i64 A.x1) ∧ w'.cell? ⟨ka, 3, none⟩ = some (.int .i64 A.y1) ∧ w'.cell? ⟨ka, 4, none⟩ = some (va)) ∧ (w'.cell? ⟨kb, 0, none⟩ = some (.int .i64 B.x0) ∧ w'.cell? ⟨kb, 1, none⟩ = some (.int .i64 B.y0) ∧ w'.cell? ⟨kb, 2, none⟩ = some (.int .i64 B.x1) ∧ w'.cell? ⟨kb, 3, none⟩ = some (.int .i64 B.y1) ∧ w'.cell? ⟨kb, 4, none⟩ = some (vb)) ∧ (w'.cell? ⟨kc, 0, none⟩ = some (.int .i64 M.x0) ∧ w'.cell? ⟨kc, 1, none⟩ = some (.int .i64 M.y0) ∧ w'.cell? ⟨kc, 2, none⟩ = some (.int .i64 M.x1) ∧ w'.cell? ⟨kc, 3, none⟩ = some (.int .i64 M.y1))
theorem s14_block {ka kb kc : Nat} {A : R} {va : Value} {B : R} {vb : Value} {M : R} {w1 w2 : World} (h : S14 ka kb kc A va B vb M w1) (ea : w2.heap[ka]? = w1.heap[ka]?) (eb : w2.heap[kb]? = w1.heap[kb]?) (ec : w2.heap[kc]? = w1.heap[kc]?) : S14 ka kb kc A va B vb M w2 := by
  obtain ⟨⟨a0, a1, a2, a3, a4⟩, ⟨b0, b1, b2, b3, b4⟩, c0, c1, c2, c3⟩ := h
  have e1 := fun o => World.cell?_of_block (a := ⟨ka, o, none⟩) ea
  have e2 := fun o => World.cell?_of_block (a := ⟨kb, o, none⟩) eb
  have e3 := fun o => World.cell?_of_block (a := ⟨kc, o, none⟩) ec
  exact ⟨⟨by rw [e1]; exact a0, by rw [e1]; exact a1, by rw [e1]; exact a2, by rw [e1]; exact a3, by rw [e1]; exact a4⟩, ⟨by rw [e2]; exact b0, by rw [e2]; exact b1, by rw [e2]; exact b2, by rw [e2]; exact b3, by rw [e2]; exact b4⟩, by rw [e3]; exact c0, by rw [e3]; exact c1, by rw [e3]; exact c2, by rw [e3]; exact c3⟩
theorem s14_below {ka kb kc : Nat} {A : R} {va : Value} {B : R} {vb : Value} {M : R} {w1 w2 : World} (h : S14 ka kb kc A va B vb M w1) (hb : Below w1.heap.size w1 w2) : S14 ka kb kc A va B vb M w2 :=
  s14_block h (hb.block ka (World.block_lt_of_cell? w1 ⟨ka, 0, none⟩ h.1.1)) (hb.block kb (World.block_lt_of_cell? w1 ⟨kb, 0, none⟩ h.2.1.1)) (hb.block kc (World.block_lt_of_cell? w1 ⟨kc, 0, none⟩ h.2.2.1))
theorem s14_drew {ka kb kc : Nat} {A : R} {va : Value} {B : R} {vb : Value} {M : R} {w1 : World} (h : S14 ka kb kc A va B vb M w1) : S14 ka kb kc A va B vb M w1.drew := s14_below h (Below.refl _ _).drew
theorem s14_of {ka kb kc : Nat} {A : R} {ao : Option Addr} {an am : Nat} {B : R} {bo : Option Addr} {bn bm : Nat} {M : R} {w1 : World} (ha : Has5 w1 ka A ao an am) (hb : Has5 w1 kb B bo bn bm) (hc : Rc.Has4 w1 kc (.int .i64 M.x0) (.int .i64 M.y0) (.int .i64 M.x1) (.int .i64 M.y1)) : S14 ka kb kc A (.slice ao an am) B (.slice bo bn bm) M w1 :=
  ⟨⟨ha.c0, ha.c1, ha.c2, ha.c3, ha.c4⟩, ⟨hb.c0, hb.c1, hb.c2, hb.c3, hb.c4⟩, hc.c0, hc.c1, hc.c2, hc.c3⟩

theorem lt_alloc (w : World) (o : Obj) : w.heap.size < (w.alloc o).heap.size := by simp
/-- the rows' values -/
theorem row_out {Z B M : R} {rx ry : Nat} (hF : Fit Z B M rx ry) (t : Bool) (f : Int → Int → X) (y : Int) {N : Nat} (hN : endA B M rx - firstA B M rx = (N : Int)) {j : Nat} (hj : M.x0 + (j : Int) < M.x1) :
    outX t (fun i => f (firstA B M rx + i) y) N (M.x0 - firstA B M rx) rx j = rowE t B f rx (M.x0 + (j : Int)) y := by
  obtain ⟨h1, h2⟩ := hF.bx
  unfold outX rowE
  rw [extX_shift t (fun u => f u y)]
  unfold endA firstA mx mn at *
  congr 1 <;> omega
theorem row_win {Z B M : R} {rx ry : Nat} (hF : Fit Z B M rx ry) {N : Nat} (hN : endA B M rx - firstA B M rx = (N : Int)) {j : Nat} (hj : M.x0 + (j : Int) < M.x1) :
    mx 0 ((j : Int) + (M.x0 - firstA B M rx) - (rx : Int)) < mn (N : Int) ((j : Int) + (M.x0 - firstA B M rx) + (rx : Int) + 1) := by
  obtain ⟨h1, h2⟩ := hF.bx
  unfold endA firstA mx mn at *
  omega
theorem col_out {Z B M : R} {rx ry : Nat} (hF : Fit Z B M rx ry) (t : Bool) (u : Int → Int → X) (x : Int) {N : Nat} (hN : (rowsQ B M ry).y1 - (rowsQ B M ry).y0 = (N : Int)) {j : Nat} (hj : M.y0 + (j : Int) < M.y1) :
    outX t (fun i => u x ((rowsQ B M ry).y0 + i)) N (M.y0 - (rowsQ B M ry).y0) ry j = colE t (rowsQ B M ry) u ry x (M.y0 + (j : Int)) := by
  obtain ⟨h1, h2⟩ := hF.by_
  unfold outX colE
  rw [extX_shift t (fun v => u x v)]
  unfold rowsQ mx mn at *
  dsimp only at *
  congr 1 <;> omega
theorem col_win {Z B M : R} {rx ry : Nat} (hF : Fit Z B M rx ry) {N : Nat} (hN : (rowsQ B M ry).y1 - (rowsQ B M ry).y0 = (N : Int)) {j : Nat} (hj : M.y0 + (j : Int) < M.y1) :
    mx 0 ((j : Int) + (M.y0 - (rowsQ B M ry).y0) - (ry : Int)) < mn (N : Int) ((j : Int) + (M.y0 - (rowsQ B M ry).y0) + (ry : Int) + 1) := by
  obtain ⟨h1, h2⟩ := hF.by_
  unfold rowsQ mx mn at *
  dsimp only at *
  omega
theorem rowE_byte {B : R} {f : Int → Int → X} (hb : ∀ x y, byteX (f x y)) (t : Bool) (r : Nat) (x y : Int) : byteX (rowE t B f r x y) := by
  unfold rowE
  generalize mx B.x0 (x - (r : Int)) = a
  generalize mn B.x1 (x + (r : Int) + 1) = b
  have h0 := ext_byte (ext_of t (fun i => (f i y).c0) a (b - a - 1).toNat) (fun i => (hb i y).1)
  have h1 := ext_byte (ext_of t (fun i => (f i y).c1) a (b - a - 1).toNat) (fun i => (hb i y).2.1)
  have h2 := ext_byte (ext_of t (fun i => (f i y).c2) a (b - a - 1).toNat) (fun i => (hb i y).2.2.1)
  have h3 := ext_byte (ext_of t (fun i => (f i y).c3) a (b - a - 1).toNat) (fun i => (hb i y).2.2.2)
  exact ⟨h0, h1, h2, h3⟩

theorem along_v (lo g off n m : Nat) (Z : R) (Fz : Int → Int → X) (px py : Nat → Int) (o nT cT st K : Nat) (fg foff fn fm : Nat) (B : R) (f : Int → Int → X) (qx qy : Nat → Int) (fo nF cF fst N : Nat) (F : Int → X) (k : Nat) (t : Bool) (lead : Int) (r : Nat) (st' K' fst' N' : Int) (w : World) (e1 : st' = (st : Int)) (e2 : K' = (K : Int)) (e3 : fst' = (fst : Int)) (e4 : N' = (N : Int))
    (hO : Ox lo w (some ⟨g, off, none⟩) n m g off (img Z Fz)) (hV : Vx w (some ⟨fg, foff, none⟩) fn fm fg foff (img B f)) (hS : Sr w k t) (hT : Lt Z off px py o nT st K) (hQ : Lt B foff qx qy fo nF fst N) (hFf : ∀ j, j < N → F (j : Int) = f (qx j) (qy j)) (hb : ∀ i, byteX (F i))
    (hd : fg ≠ g ∧ k ≠ g ∧ fg ≠ k) (hg : g < w.heap.size) (hr : r ≤ 255) (hl0 : -(r : Int) ≤ lead) (hl1 : lead ≤ (r : Int)) (hK : K ≤ 5000) (hN : N ≤ 5000) (hnT : nT ≤ 1000000) (hnF : nF ≤ 1000000)
    (hW : ∀ j : Nat, j < K → mx 0 ((j : Int) + lead - (r : Int)) < mn (N : Int) ((j : Int) + lead + (r : Int) + 1)) :
    Calls Try.prog 41 #[.agg #[.slice (some ⟨g, o, none⟩) nT cT, .int .i64 st', .int .i64 K'], .agg #[.slice (some ⟨fg, fo, none⟩) nF cF, .int .i64 fst', .int .i64 N'], .int .i64 lead, .int .i64 (r : Int), .pointer (some ⟨k, 0, none⟩)] w fun e w' => e = .returned (.tuple #[]) ∧ Ox lo w' (some ⟨g, off, none⟩) n m g off (img Z (lineI Fz px py (outX t F N lead r) K)) ∧ Sr w' k t ∧ But2 g k w w' := by
  subst e1; subst e2; subst e3; subst e4
  exact along_any lo g off n m Z Fz px py o nT cT st K fg foff fn fm B f qx qy fo nF cF fst N F k t lead r w hO hV hS hT hQ hFf hb hd hg hr hl0 hl1 hK hN hnT hnF hW

set_option maxRecDepth 100000 in
set_option maxHeartbeats 8000000 in
theorem fill_some (lo g off n m : Nat) (Z : R) (Fz : Int → Int → X) (sg soff sn sm : Nat) (B : R) (f : Int → Int → X) (M : R) (rx ry : Nat) (t : Bool) (w : World) (hF : Fit Z B M rx ry) (hqa : area (rowsQ B M ry) ≤ 5000) (hn : n ≤ 5000) (hsn : sn ≤ 5000) (hO : Ox lo w (some ⟨g, off, none⟩) n m g off (img Z Fz)) (hV : Vx w (some ⟨sg, soff, none⟩) sn sm sg soff (img B f)) (hne : sg ≠ g) (hb : ∀ x y, byteX (f x y)) :
    Calls Try.prog 23 #[.agg #[.int .i64 Z.x0, .int .i64 Z.y0, .int .i64 Z.x1, .int .i64 Z.y1, .slice (some ⟨g, off, none⟩) n m], .agg #[.int .i64 M.x0, .int .i64 M.y0, .int .i64 M.x1, .int .i64 M.y1], .agg #[.int .i64 B.x0, .int .i64 B.y0, .int .i64 B.x1, .int .i64 B.y1, .slice (some ⟨sg, soff, none⟩) sn sm], .int .i64 (rx : Int), .int .i64 (ry : Int), .int .u8 (tv t)] w fun e w' => e = .returned (.tuple #[]) ∧ Ox lo w' (some ⟨g, off, none⟩) n m g off (img Z (colsG M (colE t (rowsQ B M ry) (rowE t B f rx) ry) Fz M.x1)) ∧ But g w w' := by
  have hnn : n = wid Z * hei Z := by have h1 := vx_len hO.v; rw [img_len] at h1; exact h1.symm
  have hss : sn = wid B * hei B := by have h1 := vx_len hV; rw [img_len] at h1; exact h1.symm
  have hnm : n ≤ m := hO.v.le
  have hmx : m ≤ maxLen := hO.v.max
  have hsm : sn ≤ sm := hV.le
  have hsx : sm ≤ maxLen := hV.max
  have hn0 : 0 < n := by
    have h1 := hF.mx
    have h2 := hF.my
    rw [hnn]
    exact Nat.mul_pos (by unfold wid; omega) (by unfold hei; omega)
  have hsn0 : 0 < sn := by
    have h1 := hF.bx
    have h2 := hF.by_
    rw [hss]
    exact Nat.mul_pos (by unfold wid; omega) (by unfold hei; omega)
  have hgl : g < w.heap.size := (hO.new (by omega)).2
  have hsl : sg < w.heap.size := vx_lt hV hsn0
  obtain ⟨Q, hQ⟩ : ∃ Q, Q = rowsQ B M ry := ⟨_, rfl⟩
  obtain ⟨A0, hA0⟩ : ∃ A0, A0 = firstA B M rx := ⟨_, rfl⟩
  obtain ⟨A1, hA1⟩ : ∃ A1, A1 = endA B M rx := ⟨_, rfl⟩
  have HF := hid hF
  have HB := hid hb
  obtain ⟨⟨⟨i0, i1⟩, ⟨i2, i3⟩, ⟨i4, i5⟩, i6, i7⟩, ⟨⟨j0, j1⟩, ⟨j2, j3⟩, ⟨j4, j5⟩, j6, j7⟩, ⟨⟨l0, l1⟩, ⟨l2, l3⟩, ⟨l4, l5⟩, l6, l7⟩, ⟨m0, m1, m2⟩, ⟨m3, m4, m5⟩, ⟨b0, b1, b2⟩, ⟨b3, b4, b5⟩, hrx, hry⟩ := hF
  have z0 : A0 < A1 ∧ B.x0 ≤ A0 ∧ A1 ≤ B.x1 ∧ -(rx : Int) ≤ M.x0 - A0 ∧ M.x0 - A0 ≤ (rx : Int) := by
    rw [hA0, hA1]
    unfold firstA endA mx mn
    omega
  have q0 : Q.x0 = M.x0 ∧ Q.x1 = M.x1 ∧ Q.y0 < Q.y1 ∧ B.y0 ≤ Q.y0 ∧ Q.y1 ≤ B.y1 ∧ -(ry : Int) ≤ M.y0 - Q.y0 ∧ M.y0 - Q.y0 ≤ (ry : Int) := by
    rw [hQ]
    unfold rowsQ mx mn
    dsimp only
    omega
  obtain ⟨z0, z1, z2, z3, z4⟩ := z0
  obtain ⟨q0, q1, q2, q3, q4, q5, q6⟩ := q0
  have hQo : Ok Q := by unfold Ok; omega
  have hQe : empB Q = false := emp_no (by omega) q2
  have HQ : Hid (orN ⟨M.x0, mx B.y0 (M.y0 - (ry : Int)), M.x1, mn B.y1 (M.y1 + (ry : Int))⟩ = Q) := by
    show orN (rowsQ B M ry) = Q
    rw [← hQ]
    exact orN_no hQe
  have HSZ := hid (size_of hQo hQe (by rw [hQ]; exact hqa))
  have HNEW : Hid (Ok ⟨M.x0, mx B.y0 (M.y0 - (ry : Int)), M.x1, mn B.y1 (M.y1 + (ry : Int))⟩ ∧ area ⟨M.x0, mx B.y0 (M.y0 - (ry : Int)), M.x1, mn B.y1 (M.y1 + (ry : Int))⟩ ≤ 5000) := by
    show Ok (rowsQ B M ry) ∧ area (rowsQ B M ry) ≤ 5000
    exact ⟨hQ ▸ hQo, hqa⟩
  obtain ⟨KX, hKX⟩ : ∃ KX : Nat, M.x1 - M.x0 = (KX : Int) := ⟨(M.x1 - M.x0).toNat, by omega⟩
  obtain ⟨KY, hKY⟩ : ∃ KY : Nat, M.y1 - M.y0 = (KY : Int) := ⟨(M.y1 - M.y0).toNat, by omega⟩
  obtain ⟨NX, hNX⟩ : ∃ NX : Nat, A1 - A0 = (NX : Int) := ⟨(A1 - A0).toNat, by omega⟩
  obtain ⟨NY, hNY⟩ : ∃ NY : Nat, Q.y1 - Q.y0 = (NY : Int) := ⟨(Q.y1 - Q.y0).toNat, by omega⟩
  have hK5 : KX ≤ 5000 ∧ KY ≤ 5000 := by
    have h1 : wid Z ≤ wid Z * hei Z := Nat.le_mul_of_pos_right _ (by unfold hei; omega)
    have h2 : hei Z ≤ wid Z * hei Z := Nat.le_mul_of_pos_left _ (by unfold wid; omega)
    have h3 : KX ≤ wid Z := by unfold wid; omega
    have h4 : KY ≤ hei Z := by unfold hei; omega
    omega
  have hN5 : NX ≤ 5000 ∧ NY ≤ 5000 := by
    have h1 : wid B ≤ wid B * hei B := Nat.le_mul_of_pos_right _ (by unfold hei; omega)
    have h2 : hei B ≤ wid B * hei B := Nat.le_mul_of_pos_left _ (by unfold wid; omega)
    have h3 : NX ≤ wid B := by unfold wid; omega
    have h4 : NY ≤ hei B := by unfold hei; omega
    omega
  obtain ⟨hK5, hK6⟩ := hK5
  obtain ⟨hN5, hN6⟩ := hN5
  have HE := hid (And.intro hA0 (And.intro hA1 hQ))
  have HK := hid (And.intro hKX (And.intro hKY (And.intro hNX hNY)))
  have HNN := hid (And.intro hnn hss)
  have HQO := hid (And.intro hQo hQe)
  have e0 : mx B.x0 (M.x0 - (rx : Int)) = A0 := hA0.symm
  have e1 : mn B.x1 (M.x1 + (rx : Int)) = A1 := hA1.symm
  have HBOX : Hid (∀ w1, w1 = ((w.alloc (.cells #[.int .i64 Z.x0, .int .i64 Z.y0, .int .i64 Z.x1, .int .i64 Z.y1, .slice (some ⟨g, off, none⟩) n m] 26)).alloc (.cells #[.int .i64 M.x0, .int .i64 M.y0, .int .i64 M.x1, .int .i64 M.y1] 23)).alloc (.cells #[.int .i64 B.x0, .int .i64 B.y0, .int .i64 B.x1, .int .i64 B.y1, .slice (some ⟨sg, soff, none⟩) sn sm] 26) → Has5 w1 w.heap.size Z (some ⟨g, off, none⟩) n m ∧ Rc.Has4 w1 (w.heap.size + 1) (.int .i64 M.x0) (.int .i64 M.y0) (.int .i64 M.x1) (.int .i64 M.y1) ∧ Has5 w1 (w.heap.size + 1 + 1) B (some ⟨sg, soff, none⟩) sn sm ∧ Below w.heap.size w w1 ∧ w1.heap.size = w.heap.size + 1 + 1 + 1) := by
    intro w1 h1
    subst h1
    exact ⟨((Has5.new rfl _ _ _ _ _ _ _ _).alloc _).alloc _, (Rc.Has4.new (by simp) _ _ _ _ _).alloc _, Has5.new (by simp) _ _ _ _ _ _ _ _, (((Below.refl _ _).alloc (Nat.le_refl _) _).alloc (by simp) _).alloc (by simp; omega) _, by simp⟩
  have HOV := hid (And.intro hO (And.intro hV (And.intro hne (And.intro hgl hsl))))
  have hNX0 : 0 < NX := by omega
  have HQX := hid (And.intro q0 q1)
  have u0 : Q.x0 ≤ M.x0 ∧ M.x0 ≤ Q.x0 := by omega
  have u1 : Q.x1 ≤ M.x1 ∧ M.x1 ≤ Q.x1 := by omega
  obtain ⟨u0, u2⟩ := u0
  obtain ⟨u1, u3⟩ := u1
  clear q0 q1
  clear hA0 hA1 hQ hKX hKY hNX hNY hnn hss hQo hQe hO hV hb hqa
  go_enter Try.func23, Try.ntmps23
  obtain ⟨W1, hW1⟩ : ∃ W1, W1 = ((w.alloc (.cells #[.int .i64 Z.x0, .int .i64 Z.y0, .int .i64 Z.x1, .int .i64 Z.y1, .slice (some ⟨g, off, none⟩) n m] 26)).alloc (.cells #[.int .i64 M.x0, .int .i64 M.y0, .int .i64 M.x1, .int .i64 M.y1] 23)).alloc (.cells #[.int .i64 B.x0, .int .i64 B.y0, .int .i64 B.x1, .int .i64 B.y1, .slice (some ⟨sg, soff, none⟩) sn sm] 26) := ⟨_, rfl⟩
  have HW1 := hid (HBOX.out W1 hW1)
  subst hW1
  obtain ⟨d0, d1, d2, d3, df⟩ := HW1.out.2.1
  obtain ⟨s0, s1, s2, s3, s4, sf⟩ := HW1.out.2.2.1
  have hb64 := zero64
  have hsz64 := zs_size
  have hne64 := zs_ne (.int .u8 (tv t))
  have HME : Hid (empB ⟨M.x0, M.y0, M.x1, M.y1⟩ = false ∧ empB ⟨Q.x0, Q.y0, Q.x1, Q.y1⟩ = false) := ⟨emp_no m1 m4, HQO.out.2⟩
  go_wp2_with (first
    | (go_at_call 21; with_reducible refine Calls.mono (new_any _ _ _ _ _ HNEW.out.1 HNEW.out.2) ?_; rintro e w2 ⟨hr2, hb2⟩; rw [HQ.out] at hr2; obtain ⟨ro, rn, rm, rg, roff, rfl, hO2, hg2, hg3, hln⟩ := retG hr2; have HL := hid (And.intro hO2 (And.intro hg2 (And.intro hg3 hln))); have HB2 := hid hb2; clear hr2 hb2 hO2 hg2 hg3 hln; obtain ⟨p0, p1, p2, p3, pf⟩ := (HW1.out.2.1.below HB2.out).alloc (.cells #[.int .i64 Q.x0, .int .i64 Q.y0, .int .i64 Q.x1, .int .i64 Q.y1, .slice ro rn rm] 26))
    | (go_at_call 40; with_reducible refine Calls.mono (Rc.empty_any M.x0 M.y0 M.x1 M.y1 _) ?_; rintro e w3 ⟨rfl, hb3⟩; rw [HME.out.1]; have HB3 := hid hb3; clear hb3; obtain ⟨r0, r1, r2, r3, r4, rf⟩ := (Has5.new (W := w2) (k := w2.heap.size) rfl Q.x0 Q.y0 Q.x1 Q.y1 ro rn rm 26).below HB3.out)
    | (go_at_call 40; with_reducible refine Calls.mono (Rc.empty_any Q.x0 Q.y0 Q.x1 Q.y1 _) ?_; rintro e w4 ⟨rfl, hb4⟩; rw [HME.out.2]; have HB4 := hid (Rc.via HB3.out hb4); clear hb4))
  have hrn0 : 0 < rn := by have := HSZ.out.2.2; have := HL.out.2.2.2; rw [img_len] at this; omega
  have hrm : rn ≤ rm := HL.out.1.v.le
  have hrx2 : rm ≤ maxLen := HL.out.1.v.max
  have hrn5 : rn ≤ 5000 := by have := HSZ.out.2.1; have := HL.out.2.2.2; rw [img_len] at this; omega
  obtain rfl : ro = some ⟨rg, roff, none⟩ := HL.out.1.v.addr (by omega)
  have HFS : Hid (Fs w lo g off n m Z Fz sg soff sn sm B f rg roff rn rm Q (tillG (rowE t B f rx) Q.y0) w.heap.size (w.heap.size + 1) (w.heap.size + 1 + 1) w2.heap.size w4.heap.size M t (w4.alloc (.cells (zs0.setIfInBounds 4104 (.int .u8 (tv t))) 64))) := by
    have hX := HB4.out.alloc HB4.out.size (.cells (zs0.setIfInBounds 4104 (.int .u8 (tv t))) 64)
    have hY := Rc.via ((Below.refl w2.heap.size w2).alloc (Nat.le_refl _) (.cells #[.int .i64 Q.x0, .int .i64 Q.y0, .int .i64 Q.x1, .int .i64 Q.y1, .slice (some ⟨rg, roff, none⟩) rn rm] 26)) hX
    have hV1 := Rc.via HB2.out hY
    have hV0 := Rc.via HW1.out.2.2.2.1 hV1
    have h1 := HW1.out.2.2.2.2
    have h2 := HL.out.2.1
    have h3 := HL.out.2.2.1 (by omega)
    have h4 := HB4.out.size
    rw [h1] at h2
    have h5 := lt_alloc w2 (.cells #[.int .i64 Q.x0, .int .i64 Q.y0, .int .i64 Q.x1, .int .i64 Q.y1, .slice (some ⟨rg, roff, none⟩) rn rm] 26)
    refine ⟨HW1.out.1.below hV1, HW1.out.2.1.below hV1, HW1.out.2.2.1.below hV1, (Has5.new rfl _ _ _ _ _ _ _ _).below hX, HOV.out.1.below hV0, HOV.out.2.1.below hV0, ?_, sr_new w4 t 64 rfl, But.of hV0, by omega, by omega, by omega, by omega, by omega, by omega, by omega, by omega, by simp; omega, by simp; omega⟩
    rw [← till_first]
    exact (HL.out.1.below hY).mono (by rw [h1]; omega)
  have HRN : Hid (rn = wid Q * hei Q) := by have := HL.out.2.2.2; rw [img_len] at this; exact this.symm
  clear HL HB2 HB3 HB4 HW1 HBOX d0 d1 d2 d3 df s0 s1 s2 s3 s4 sf p0 p1 p2 p3 pf r0 r1 r2 r3 r4 rf hb64 hsz64 hne64
  generalize w4.alloc (.cells (zs0.setIfInBounds 4104 (.int .u8 (tv t))) 64) = W5 at HFS ⊢
  generalize w4.heap.size = ks at HFS ⊢
  generalize w2.heap.size = k9 at HFS ⊢
  have hS := s14_of HFS.out.s HFS.out.h HFS.out.b
  have hwa : IntKind.i64.wrap (M.x0 - (rx : Int)) = M.x0 - (rx : Int) := by rw [IntKind.wrap_i64]; omega
  have hwb : IntKind.i64.wrap (M.x1 + (rx : Int)) = M.x1 + (rx : Int) := by rw [IntKind.wrap_i64]; omega
  go_cut [14, 15] (fun v14 v15 wx => v14 = .int .i64 A0 ∧ v15 = .int .i64 A1 ∧ Fs w lo g off n m Z Fz sg soff sn sm B f rg roff rn rm Q (tillG (rowE t B f rx) Q.y0) w.heap.size (w.heap.size + 1) (w.heap.size + 1 + 1) k9 ks M t wx)
  case first =>
    go_region_held3 (fun w' => (w'.cell? ⟨w.heap.size + 1 + 1, 0, none⟩ = some (.int .i64 B.x0) ∧ w'.cell? ⟨w.heap.size + 1 + 1, 1, none⟩ = some (.int .i64 B.y0) ∧ w'.cell? ⟨w.heap.size + 1 + 1, 2, none⟩ = some (.int .i64 B.x1) ∧ w'.cell? ⟨w.heap.size + 1 + 1, 3, none⟩ = some (.int .i64 B.y1) ∧ w'.cell? ⟨w.heap.size + 1 + 1, 4, none⟩ = some (.slice (some ⟨sg, soff, none⟩) sn sm)) ∧ (w'.cell? ⟨k9, 0, none⟩ = some (.int .i64 Q.x0) ∧ w'.cell? ⟨k9, 1, none⟩ = some (.int .i64 Q.y0) ∧ w'.cell? ⟨k9, 2, none⟩ = some (.int .i64 Q.x1) ∧ w'.cell? ⟨k9, 3, none⟩ = some (.int .i64 Q.y1) ∧ w'.cell? ⟨k9, 4, none⟩ = some (.slice (some ⟨rg, roff, none⟩) rn rm)) ∧ (w'.cell? ⟨w.heap.size + 1, 0, none⟩ = some (.int .i64 M.x0) ∧ w'.cell? ⟨w.heap.size + 1, 1, none⟩ = some (.int .i64 M.y0) ∧ w'.cell? ⟨w.heap.size + 1, 2, none⟩ = some (.int .i64 M.x1) ∧ w'.cell? ⟨w.heap.size + 1, 3, none⟩ = some (.int .i64 M.y1))) (repeat (first | with_reducible assumption | with_reducible refine s14_drew ?_ | with_reducible refine s14_below ?_ ‹_›)) (fail)
    all_goals
      go_wp2_with fail
      go_meet
    all_goals exact ⟨rfl, rfl, HFS.out.below (Below.refl _ _).drew⟩
  case rest =>
    obtain ⟨rfl, rfl, hF2⟩ := hcut
    clear hS hwa hwb HFS
    have HF2 := hid hF2
    obtain ⟨a0, a1, a2, a3, a4, af⟩ := hF2.h
    clear hF2
    have hsub : IntKind.i64.wrap (M.x0 - A0) = M.x0 - A0 := by rw [IntKind.wrap_i64]; omega
    have hsub2 : IntKind.i64.wrap (M.y0 - Q.y0) = M.y0 - Q.y0 := by rw [IntKind.wrap_i64]; omega
    go_wp2
    clear a0 a1 a2 a3 a4 af
    go_loopg [16] (Q.y1 - Q.y0).toNat (fun gh v16 wr => ∃ y, Q.y0 ≤ y ∧ y ≤ Q.y1 ∧ gh = (Q.y1 - y).toNat ∧ v16 = .int .i64 y ∧ Fs w lo g off n m Z Fz sg soff sn sm B f rg roff rn rm Q (tillG (rowE t B f rx) y) w.heap.size (w.heap.size + 1) (w.heap.size + 1 + 1) k9 ks M t wr)
    case atStart => exact ⟨Q.y0, Int.le_refl _, by omega, rfl, rfl, HF2.out⟩
    case round =>
      clear HF2
      obtain ⟨y, hy0, hy1, rfl, rfl, hF3⟩ := hrel
      have HF3 := hid hF3
      obtain ⟨a0, a1, a2, a3, a4, af⟩ := hF3.h
      by_cases hlt : y < Q.y1
      · obtain ⟨c1, hc1, hc2, hc3⟩ := idx_of (Z := Q) (x := M.x0) (y := y) hy0 (by omega) (by omega)
        obtain ⟨d1, hd1, hd2, hd3⟩ := idx_of (Z := B) (x := A0) (y := y) (by omega) (by omega) (by omega)
        have HI := hid (And.intro (And.intro hc1 hc2) (And.intro hd1 hd2))
        have HLT : Hid (Lt Q roff (fun j => M.x0 + (j : Int)) (fun _ => y) (roff + posN Q M.x0 y * 4) (rn - posN Q M.x0 y) 1 KX ∧ Lt B soff (fun j => A0 + (j : Int)) (fun _ => y) (soff + posN B A0 y * 4) (sn - posN B A0 y) 1 NX) :=
          ⟨lt_row ⟨hy0, hlt⟩ (by omega) (by have := HK.out.1; omega) HRN.out, lt_row ⟨by omega, by omega⟩ (by omega) (by have := HK.out.2.2.1; omega) HNN.out.2⟩
        have hp1 : posN Q M.x0 y < rn := by rw [HRN.out]; exact (pos_of (decide_eq_true (by omega))).1
        have hp2 : posN B A0 y < sn := by rw [HNN.out.2]; exact (pos_of (decide_eq_true (by omega))).1
        have hc4 : c1 ≤ 1000000 := by omega
        have hd4 : d1 ≤ 1000000 := by omega
        have HCV : Hid (img Q (lineI (tillG (rowE t B f rx) y) (fun j => M.x0 + (j : Int)) (fun _ => y) (outX t (fun i => f (A0 + i) y) NX (M.x0 - A0) rx) KX) = img Q (tillG (rowE t B f rx) (y + 1))) := by
          show _ = _
          rw [areaI_row (tillG (rowE t B f rx) y) M.x0 y _ (fun x => (rowE t B f rx) x y) KX (fun j hj => by
            have h1 := HK.out.1
            have h2 := HK.out.2.2.1
            rw [HE.out.1, HE.out.2.1] at h2
            rw [HE.out.1]
            exact row_out HF.out t f y h2 (by omega))]
          rw [show M.x0 + (KX : Int) = Q.x1 by have := HK.out.1; have := HQX.out.2; omega, ← HQX.out.1]
          exact till_row
        have HWI : Hid (∀ j : Nat, j < KX → mx 0 ((j : Int) + (M.x0 - A0) - (rx : Int)) < mn (NX : Int) ((j : Int) + (M.x0 - A0) + (rx : Int) + 1)) := by
          intro j hj
          have h1 := HK.out.1
          have h2 := HK.out.2.2.1
          rw [HE.out.1, HE.out.2.1] at h2
          rw [HE.out.1]
          exact row_win HF.out h2 (by omega)
        have HDS : Hid (sg ≠ rg ∧ ks ≠ rg ∧ sg ≠ ks) := ⟨HF3.out.es.2.1, Ne.symm HF3.out.er.2.1, HF3.out.es.2.2⟩
        have HM4 : Hid ((-4398046511104 ≤ y ∧ y ≤ 4398046511104) ∧ (-4398046511104 ≤ A0 ∧ A0 ≤ 4398046511104) ∧ (-4398046511104 ≤ A1 ∧ A1 ≤ 4398046511104)) := ⟨⟨by omega, by omega⟩, ⟨by omega, by omega⟩, by omega, by omega⟩
        clear hF3 hc1 hc2 hd1 hd2 hc3 hd3
        go_wp2
        have hS := s14_of HF3.out.s HF3.out.h HF3.out.b
        go_region_held3 (fun w' => (w'.cell? ⟨w.heap.size + 1 + 1, 0, none⟩ = some (.int .i64 B.x0) ∧ w'.cell? ⟨w.heap.size + 1 + 1, 1, none⟩ = some (.int .i64 B.y0) ∧ w'.cell? ⟨w.heap.size + 1 + 1, 2, none⟩ = some (.int .i64 B.x1) ∧ w'.cell? ⟨w.heap.size + 1 + 1, 3, none⟩ = some (.int .i64 B.y1) ∧ w'.cell? ⟨w.heap.size + 1 + 1, 4, none⟩ = some (.slice (some ⟨sg, soff, none⟩) sn sm)) ∧ (w'.cell? ⟨k9, 0, none⟩ = some (.int .i64 Q.x0) ∧ w'.cell? ⟨k9, 1, none⟩ = some (.int .i64 Q.y0) ∧ w'.cell? ⟨k9, 2, none⟩ = some (.int .i64 Q.x1) ∧ w'.cell? ⟨k9, 3, none⟩ = some (.int .i64 Q.y1) ∧ w'.cell? ⟨k9, 4, none⟩ = some (.slice (some ⟨rg, roff, none⟩) rn rm)) ∧ (w'.cell? ⟨w.heap.size + 1, 0, none⟩ = some (.int .i64 M.x0) ∧ w'.cell? ⟨w.heap.size + 1, 1, none⟩ = some (.int .i64 M.y0) ∧ w'.cell? ⟨w.heap.size + 1, 2, none⟩ = some (.int .i64 M.x1) ∧ w'.cell? ⟨w.heap.size + 1, 3, none⟩ = some (.int .i64 M.y1))) (repeat (first | with_reducible assumption | with_reducible refine s14_drew ?_ | with_reducible refine s14_below ?_ ‹_›))
          ((first
            | (go_at_call 42; with_reducible refine Calls.mono (row_any Q rg roff rn rm M.x0 M.x1 y c1 (posN Q M.x0 y) _ HQO.out.1 ⟨l0, l1⟩ ⟨l4, l5⟩ HM4.out.1 HI.out.1.1 HI.out.1.2 hc4 hp1 hrm hrx2) ?_; rintro e w5 ⟨rfl, hb5⟩; have HB5 := hid (Rc.via ((Below.refl wr.heap.size wr).drew) hb5))
            | (go_at_call 42; with_reducible refine Calls.mono (row_any B sg soff sn sm A0 A1 y d1 (posN B A0 y) _ HF.out.ob HM4.out.2.1 HM4.out.2.2 HM4.out.1 HI.out.2.1 HI.out.2.2 hd4 hp2 hsm hsx) ?_; rintro e w6 ⟨rfl, hb6⟩; have HF6 := hid (HF3.out.below (Rc.via HB5.out hb6)))
            | (go_at_call 41; with_reducible refine Calls.mono (along_v w.heap.size rg roff rn rm Q (tillG (rowE t B f rx) y) (fun j => M.x0 + (j : Int)) (fun _ => y) (roff + posN Q M.x0 y * 4) (rn - posN Q M.x0 y) (rm - posN Q M.x0 y) 1 KX sg soff sn sm B f (fun j => A0 + (j : Int)) (fun _ => y) (soff + posN B A0 y * 4) (sn - posN B A0 y) (sm - posN B A0 y) 1 NX (fun i => f (A0 + i) y) ks t (M.x0 - A0) rx 1 (M.x1 - M.x0) 1 (A1 - A0) _ rfl HK.out.1 rfl HK.out.2.2.1 HF6.out.q HF6.out.v HF6.out.r HLT.out.1 HLT.out.2 (fun _ _ => rfl) (fun i => HB.out _ _) HDS.out HF6.out.hl hrx z3 z4 hK5 hN5 (by omega) (by omega) HWI.out) ?_; rintro e w7 ⟨rfl, ho7, hs7, hb7⟩; rw [HCV.out] at ho7; have HF7 := hid (HF6.out.row ho7 hs7 hb7); clear ho7 hs7 hb7; have hS7 := s14_of HF7.out.s HF7.out.h HF7.out.b)))
        go_wp2
        go_roundg (Q.y1 - (y + 1)).toNat
        case measure => omega
        case rel => exact ⟨y + 1, by omega, by omega, rfl, rfl, HF7.out⟩
      · obtain rfl : Q.y1 = y := by omega
        have HF8 := hid (hF3.reQ till_last)
        obtain ⟨d0, d1, d2, d3, df⟩ := hF3.b
        clear hF3
        go_wp2
        clear a0 a1 a2 a3 a4 af d0 d1 d2 d3 df
        go_loopg [17] (M.x1 - M.x0).toNat (fun gh v17 wr => ∃ x, M.x0 ≤ x ∧ x ≤ M.x1 ∧ gh = (M.x1 - x).toNat ∧ v17 = .int .i64 x ∧ Fs w lo g off n m Z (colsG M (colE t Q (rowE t B f rx) ry) Fz x) sg soff sn sm B f rg roff rn rm Q (rowE t B f rx) w.heap.size (w.heap.size + 1) (w.heap.size + 1 + 1) k9 ks M t wr)
        case atStart => exact ⟨M.x0, Int.le_refl _, by omega, rfl, rfl, by rw [cols_first]; exact HF8.out⟩
        case round =>
          clear HF8 HF3
          obtain ⟨x, hx0, hx1, rfl, rfl, hF4⟩ := hrel
          have HF4 := hid hF4
          obtain ⟨a0, a1, a2, a3, af⟩ := hF4.b
          by_cases hlt2 : x < M.x1
          · obtain ⟨c1, hc1, hc2, hc3⟩ := idx_of (Z := Z) (x := x) (y := M.y0) m3 (by omega) (by omega)
            obtain ⟨d1, hd1, hd2, hd3⟩ := idx_of (Z := Q) (x := x) (y := Q.y0) (by omega) (by omega) (by omega)
            have HI := hid (And.intro (And.intro hc1 hc2) (And.intro hd1 hd2))
            have HLT : Hid (Lt Z off (fun _ => x) (fun j => M.y0 + (j : Int)) (off + posN Z x M.y0 * 4) (n - posN Z x M.y0) (wid Z) KY ∧ Lt Q roff (fun _ => x) (fun j => Q.y0 + (j : Int)) (roff + posN Q x Q.y0 * 4) (rn - posN Q x Q.y0) (wid Q) NY) :=
              ⟨lt_col ⟨by omega, by omega⟩ m3 (by have := HK.out.2.1; omega) HNN.out.1, lt_col ⟨by omega, by omega⟩ (by omega) (by have := HK.out.2.2.2; omega) HRN.out⟩
            have hp1 : posN Z x M.y0 < n := by rw [HNN.out.1]; exact (pos_of (decide_eq_true (by omega))).1
            have hp2 : posN Q x Q.y0 < rn := by rw [HRN.out]; exact (pos_of (decide_eq_true (by omega))).1
            have hc4 : c1 ≤ 1000000 := by omega
            have hd4 : d1 ≤ 1000000 := by omega
            have HWD : Hid (Z.x1 - Z.x0 = ((wid Z : Nat) : Int) ∧ Q.x1 - Q.x0 = ((wid Q : Nat) : Int)) := ⟨by unfold wid; omega, by unfold wid; omega⟩
            have HCV : Hid (img Z (lineI (colsG M (colE t Q (rowE t B f rx) ry) Fz x) (fun _ => x) (fun j => M.y0 + (j : Int)) (outX t (fun i => (rowE t B f rx) x (Q.y0 + i)) NY (M.y0 - Q.y0) ry) KY) = img Z (colsG M (colE t Q (rowE t B f rx) ry) Fz (x + 1))) := by
              show _ = _
              rw [areaI_col M (colE t Q (rowE t B f rx) ry) Fz x hx0 _ KY (fun j hj => by
                have h1 := HK.out.2.1
                have h2 := HK.out.2.2.2
                rw [HE.out.2.2] at h2
                rw [HE.out.2.2]
                exact col_out HF.out t (rowE t B f rx) x h2 (by omega))]
              rw [cols_next M (colE t Q (rowE t B f rx) ry) Fz hx0 HK.out.2.1]
            have HWI : Hid (∀ j : Nat, j < KY → mx 0 ((j : Int) + (M.y0 - Q.y0) - (ry : Int)) < mn (NY : Int) ((j : Int) + (M.y0 - Q.y0) + (ry : Int) + 1)) := by
              intro j hj
              have h1 := HK.out.2.1
              have h2 := HK.out.2.2.2
              rw [HE.out.2.2] at h2
              rw [HE.out.2.2]
              exact col_win HF.out h2 (by omega)
            have HDS : Hid (rg ≠ g ∧ ks ≠ g ∧ rg ≠ ks) := ⟨HF4.out.er.1, HF4.out.er.2.2, HF4.out.er.2.1⟩
            have HM4 : Hid ((-4398046511104 ≤ x ∧ x ≤ 4398046511104) ∧ (-4398046511104 ≤ Q.y0 ∧ Q.y0 ≤ 4398046511104) ∧ (-4398046511104 ≤ Q.y1 ∧ Q.y1 ≤ 4398046511104)) := ⟨⟨by omega, by omega⟩, ⟨by omega, by omega⟩, by omega, by omega⟩
            clear hF4 hc1 hc2 hd1 hd2 hc3 hd3
            go_wp2
            have hS := s14_of HF4.out.a HF4.out.h HF4.out.b
            go_region_held3 (fun w' => (w'.cell? ⟨w.heap.size, 0, none⟩ = some (.int .i64 Z.x0) ∧ w'.cell? ⟨w.heap.size, 1, none⟩ = some (.int .i64 Z.y0) ∧ w'.cell? ⟨w.heap.size, 2, none⟩ = some (.int .i64 Z.x1) ∧ w'.cell? ⟨w.heap.size, 3, none⟩ = some (.int .i64 Z.y1) ∧ w'.cell? ⟨w.heap.size, 4, none⟩ = some (.slice (some ⟨g, off, none⟩) n m)) ∧ (w'.cell? ⟨k9, 0, none⟩ = some (.int .i64 Q.x0) ∧ w'.cell? ⟨k9, 1, none⟩ = some (.int .i64 Q.y0) ∧ w'.cell? ⟨k9, 2, none⟩ = some (.int .i64 Q.x1) ∧ w'.cell? ⟨k9, 3, none⟩ = some (.int .i64 Q.y1) ∧ w'.cell? ⟨k9, 4, none⟩ = some (.slice (some ⟨rg, roff, none⟩) rn rm)) ∧ (w'.cell? ⟨w.heap.size + 1, 0, none⟩ = some (.int .i64 M.x0) ∧ w'.cell? ⟨w.heap.size + 1, 1, none⟩ = some (.int .i64 M.y0) ∧ w'.cell? ⟨w.heap.size + 1, 2, none⟩ = some (.int .i64 M.x1) ∧ w'.cell? ⟨w.heap.size + 1, 3, none⟩ = some (.int .i64 M.y1))) (repeat (first | with_reducible assumption | with_reducible refine s14_drew ?_ | with_reducible refine s14_below ?_ ‹_›))
              ((first
                | (go_at_call 43; with_reducible refine Calls.mono (column_any Z g off n m x M.y0 M.y1 c1 (posN Z x M.y0) _ HF.out.oz HM4.out.1 ⟨l2, l3⟩ ⟨l6, l7⟩ HI.out.1.1 HI.out.1.2 hc4 hp1 hnm hmx) ?_; rintro e w5 ⟨rfl, hb5⟩; have HB5 := hid (Rc.via ((Below.refl wr.heap.size wr).drew) hb5))
                | (go_at_call 43; with_reducible refine Calls.mono (column_any Q rg roff rn rm x Q.y0 Q.y1 d1 (posN Q x Q.y0) _ HQO.out.1 HM4.out.1 HM4.out.2.1 HM4.out.2.2 HI.out.2.1 HI.out.2.2 hd4 hp2 hrm hrx2) ?_; rintro e w6 ⟨rfl, hb6⟩; have HF6 := hid (HF4.out.below (Rc.via HB5.out hb6)))
                | (go_at_call 41; with_reducible refine Calls.mono (along_v lo g off n m Z (colsG M (colE t Q (rowE t B f rx) ry) Fz x) (fun _ => x) (fun j => M.y0 + (j : Int)) (off + posN Z x M.y0 * 4) (n - posN Z x M.y0) (m - posN Z x M.y0) (wid Z) KY rg roff rn rm Q (rowE t B f rx) (fun _ => x) (fun j => Q.y0 + (j : Int)) (roff + posN Q x Q.y0 * 4) (rn - posN Q x Q.y0) (rm - posN Q x Q.y0) (wid Q) NY (fun i => (rowE t B f rx) x (Q.y0 + i)) ks t (M.y0 - Q.y0) ry (Z.x1 - Z.x0) (M.y1 - M.y0) (Q.x1 - Q.x0) (Q.y1 - Q.y0) _ HWD.out.1 HK.out.2.1 HWD.out.2 HK.out.2.2.2 HF6.out.o HF6.out.q.v HF6.out.r HLT.out.1 HLT.out.2 (fun _ _ => rfl) (fun i => rowE_byte HB.out t rx _ _) HDS.out HF6.out.hg hry q5 q6 hK6 hN6 (by omega) (by omega) HWI.out) ?_; rintro e w7 ⟨rfl, ho7, hs7, hb7⟩; rw [HCV.out] at ho7; have HF7 := hid (HF6.out.col ho7 hs7 hb7); clear ho7 hs7 hb7; have hS7 := s14_of HF7.out.a HF7.out.h HF7.out.b)))
            go_wp2
            go_roundg (M.x1 - (x + 1)).toNat
            case measure => omega
            case rel => exact ⟨x + 1, by omega, by omega, rfl, rfl, HF7.out⟩
          · obtain rfl : M.x1 = x := by omega
            clear hF4
            go_wp2
            refine bodyPost_end (v := .tuple #[]) (by simp [results, Try.results23, go_sem]) rfl ⟨rfl, ?_, HF4.out.but⟩
            rw [← HE.out.2.2]
            exact HF4.out.o
end Go.Proofs.Ytfkbdpbgeglgaaa
