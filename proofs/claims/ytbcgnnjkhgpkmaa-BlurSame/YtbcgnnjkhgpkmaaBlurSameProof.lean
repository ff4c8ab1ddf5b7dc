/- What is the same all around stays; no condition. -/
import Derived.Test.YtbcgnnjkhgpkmaaRows
import Derived.WalkKit
import Derived.ProofKit
import Derived.OpenShut
import Derived.Test.YtbcgnnjkhgpkmaaOpen
import Derived.Test.YtbcgnnjkhgpkmaaKit
import Derived.Deep.LoopGhost
import Derived.Deep.Light
import Derived.Deep.RegionHeld3
import Derived.BigQuiet
import Derived.Deep.QuietTactic
namespace Go.Proofs.Ytbcgnnjkhgpkmaa.blurSame
open Go.ChangeShapes Go.WideShapes Go.ChangeAt Go.RowKit Num
set_option linter.unusedVariables false
set_option linter.unusedSimpArgs false
attribute [local go_sem ↓] run_app
attribute [local go_sem] lenV_slice
attribute [local go_sem ↓] eqX
theorem prod_nat (a b : Nat) : (2 * (a : Int) + 1) * (2 * (b : Int) + 1) = (((2 * a + 1) * (2 * b + 1) : Nat) : Int) := by push_cast; rfl
theorem prod_le625 {a b : Nat} (ha : a ≤ 12) (hb : b ≤ 12) : (2 * a + 1) * (2 * b + 1) ≤ 625 := Nat.mul_le_mul (show 2 * a + 1 ≤ 25 by omega) (show 2 * b + 1 ≤ 25 by omega)
theorem wid_x (a b : Nat) : wid ⟨-(a : Int), -(b : Int), (a : Int) + 1, (b : Int) + 1⟩ = 2 * a + 1 := by unfold wid; dsimp only; omega
theorem hei_x (a b : Nat) : hei ⟨-(a : Int), -(b : Int), (a : Int) + 1, (b : Int) + 1⟩ = 2 * b + 1 := by unfold hei; dsimp only; omega
theorem emp_x (a b : Nat) : empB ⟨-(a : Int), -(b : Int), (a : Int) + 1, (b : Int) + 1⟩ = false := emp_no (by dsimp only; omega) (by dsimp only; omega)
theorem area_x {a b : Nat} (ha : a ≤ 12) (hb : b ≤ 12) : area ⟨-(a : Int), -(b : Int), (a : Int) + 1, (b : Int) + 1⟩ = (((2 * a + 1) * (2 * b + 1) : Nat) : Int) := by
  have h := prod_le625 ha hb
  have e := prod_nat a b
  unfold area
  rw [if_neg (by rw [emp_x]; simp)]
  dsimp only
  rw [show (a : Int) + 1 - -(a : Int) = 2 * (a : Int) + 1 by omega, show (b : Int) + 1 - -(b : Int) = 2 * (b : Int) + 1 by omega, e]
  unfold mn
  omega
theorem buf_x {a b : Nat} (ha : a ≤ 12) (hb : b ≤ 12) : bufB ⟨-(a : Int), -(b : Int), (a : Int) + 1, (b : Int) + 1⟩ ((2 * a + 1) * (2 * b + 1)) = true := by
  unfold bufB
  rw [if_neg (by rw [emp_x]; simp), area_x ha hb]
  unfold rightB nearB
  simp
  omega
theorem img_x (a b : Nat) (p : X) : img ⟨-(a : Int), -(b : Int), (a : Int) + 1, (b : Int) + 1⟩ (fun _ _ => p) = List.replicate ((2 * a + 1) * (2 * b + 1)) p := by
  unfold img
  rw [wid_x, hei_x]
  simp [List.map_const']
theorem grow_x {a b : Nat} (ha : a ≤ 12) (hb : b ≤ 12) : grow ⟨0, 0, 1, 1⟩ (a : Int) (b : Int) (a : Int) (b : Int) = ⟨-(a : Int), -(b : Int), (a : Int) + 1, (b : Int) + 1⟩ := by
  unfold grow
  rw [if_neg (by decide)]
  dsimp only
  unfold cutR cutN mx mn
  rw [orN_no (emp_no (by dsimp only; omega) (by dsimp only; omega))]
  apply R_ext <;> dsimp only <;> omega
theorem one_x {a b : Nat} (p : X) : img (orN ⟨0, 0, 1, 1⟩) (blurG (atX ⟨-(a : Int), -(b : Int), (a : Int) + 1, (b : Int) + 1⟩ fun _ _ => p) a b) = [p] := by
  have h : blurG (atX ⟨-(a : Int), -(b : Int), (a : Int) + 1, (b : Int) + 1⟩ fun _ _ => p) a b 0 0 = p := blur_same fun u v h1 h2 h3 h4 => by
    unfold atX
    rw [if_pos (show hasB ⟨-(a : Int), -(b : Int), (a : Int) + 1, (b : Int) + 1⟩ u v = true from decide_eq_true (by dsimp only; omega))]
  show [blurG (atX ⟨-(a : Int), -(b : Int), (a : Int) + 1, (b : Int) + 1⟩ fun _ _ => p) a b (0 + ((0 % 1 : Nat) : Int)) (0 + ((0 / 1 : Nat) : Int))] = [p]
  exact congrArg (fun q => [q]) h
theorem box_one (p : X) (a b : Nat) (ao : Option Addr) (n m g off : Nat) (w : World) (hp : byteX p) (ha : a ≤ 12) (hb : b ≤ 12) (hn : n = (2 * a + 1) * (2 * b + 1)) (hV : Vx w ao n m g off (List.replicate n p)) :
    Calls Try.prog 12 #[.agg #[.int .i64 (-(a : Int)), .int .i64 (-(b : Int)), .int .i64 ((a : Int) + 1), .int .i64 ((b : Int) + 1), .slice ao n m], .agg #[.int .i64 0, .int .i64 0, .int .i64 1, .int .i64 1], .int .i64 (a : Int), .int .i64 (b : Int)] w fun e w' => (∃ cm cg coff, e = .returned (.agg #[.int .i64 0, .int .i64 0, .int .i64 1, .int .i64 1, .slice (some ⟨cg, coff, none⟩) 1 cm]) ∧ Vx w' (some ⟨cg, coff, none⟩) 1 cm cg coff [p]) ∧ Below w.heap.size w w' := by
  subst hn
  have h625 := prod_le625 ha hb
  refine (box_any ⟨-(a : Int), -(b : Int), (a : Int) + 1, (b : Int) + 1⟩ ao _ m g off (fun _ _ => p) ⟨0, 0, 1, 1⟩ a b w (buf_x ha hb) (by omega) (by rw [img_x]; exact hV) (fun _ _ => hp) (by unfold Half; decide) (by rw [grow_x ha hb, area_x ha hb]; omega) (by omega) (by omega)).mono ?_
  rintro e w' ⟨hr, hb'⟩
  refine ⟨?_, hb'⟩
  rw [one_x] at hr
  obtain ⟨co, cn, cm, cg, coff, rfl, hO, -, -, hl⟩ := retG hr
  obtain rfl : cn = 1 := hl.symm
  obtain rfl := (vx_at0 hO.v).1
  exact ⟨cm, cg, coff, rfl, hO.v⟩
/-- the cells that the answer reads -/
abbrev S9 (k g off kp : Nat) (v : Value) (p : X) (w : World) : Prop := w.cell? ⟨k, 4, none⟩ = some v ∧
  (w.cell? ⟨g, off, none⟩ = some (.int .u8 p.c0) ∧ w.cell? ⟨g, off + 1, none⟩ = some (.int .u8 p.c1) ∧ w.cell? ⟨g, off + 2, none⟩ = some (.int .u8 p.c2) ∧ w.cell? ⟨g, off + 3, none⟩ = some (.int .u8 p.c3)) ∧
  (w.cell? ⟨kp, 0, none⟩ = some (.int .u8 p.c0) ∧ w.cell? ⟨kp, 1, none⟩ = some (.int .u8 p.c1) ∧ w.cell? ⟨kp, 2, none⟩ = some (.int .u8 p.c2) ∧ w.cell? ⟨kp, 3, none⟩ = some (.int .u8 p.c3))
theorem cell_below {w1 w2 : World} {x : Addr} {v : Value} (h : w1.cell? x = some v) (hb : Below w1.heap.size w1 w2) : w2.cell? x = some v := by
  rw [World.cell?_of_block (hb.block x.block (World.block_lt_of_cell? w1 x h))]; exact h
theorem s9_below {k g off kp : Nat} {v : Value} {p : X} {w1 w2 : World} (h : S9 k g off kp v p w1) (hb : Below w1.heap.size w1 w2) : S9 k g off kp v p w2 := by
  obtain ⟨h0, ⟨h1, h2, h3, h4⟩, h5, h6, h7, h8⟩ := h
  exact ⟨cell_below h0 hb, ⟨cell_below h1 hb, cell_below h2 hb, cell_below h3 hb, cell_below h4 hb⟩, cell_below h5 hb, cell_below h6 hb, cell_below h7 hb, cell_below h8 hb⟩
theorem s9_drew {k g off kp : Nat} {v : Value} {p : X} {w1 : World} (h : S9 k g off kp v p w1) : S9 k g off kp v p w1.drew := s9_below h (Below.refl _ _).drew

set_option maxRecDepth 100000 in
set_option maxHeartbeats 4000000 in
theorem walk (p : X) (rx ry : Int) (W : World) (hp : byteX p) (h1 : 0 ≤ rx ∧ rx ≤ 255) (h2 : 0 ≤ ry ∧ ry ≤ 255) :
    Calls Try.prog 7 #[.agg #[.int .u8 p.c0, .int .u8 p.c1, .int .u8 p.c2, .int .u8 p.c3], .int .u8 rx, .int .u8 ry] W fun e w' => e = .returned (.bool true) ∧ Below W.heap.size W w' := by
  obtain ⟨a, ha⟩ : ∃ a : Nat, rx % 13 = (a : Int) := ⟨(rx % 13).toNat, by omega⟩
  obtain ⟨b, hb⟩ : ∃ b : Nat, ry % 13 = (b : Int) := ⟨(ry % 13).toNat, by omega⟩
  have ha12 : a ≤ 12 := by omega
  have hb12 : b ≤ 12 := by omega
  obtain ⟨h10, h11⟩ := h1
  obtain ⟨h20, h21⟩ := h2
  obtain ⟨N, hN⟩ : ∃ N : Nat, N = (2 * a + 1) * (2 * b + 1) := ⟨_, rfl⟩
  have hN625 : N ≤ 625 := by rw [hN]; exact prod_le625 ha12 hb12
  have hNN : (2 * (a : Int) + 1) * (2 * (b : Int) + 1) = (N : Int) := by rw [hN]; exact prod_nat a b
  have HP := hid hp
  have HN := hid hN
  have H0 : Hid (Rc.Has4 (W.alloc (.cells #[.int .u8 p.c0, .int .u8 p.c1, .int .u8 p.c2, .int .u8 p.c3] 32)) W.heap.size (.int .u8 p.c0) (.int .u8 p.c1) (.int .u8 p.c2) (.int .u8 p.c3) ∧ Below W.heap.size W (W.alloc (.cells #[.int .u8 p.c0, .int .u8 p.c1, .int .u8 p.c2, .int .u8 p.c3] 32)) ∧ (W.alloc (.cells #[.int .u8 p.c0, .int .u8 p.c1, .int .u8 p.c2, .int .u8 p.c3] 32)).heap.size = W.heap.size + 1) := ⟨Rc.Has4.new rfl _ _ _ _ _, (Below.refl _ _).alloc (Nat.le_refl _) _, by simp⟩
  have HG0 : Hid (Gs (W.alloc (.cells #[.int .u8 p.c0, .int .u8 p.c1, .int .u8 p.c2, .int .u8 p.c3] 32)) (W.heap.size + 1) ⟨-(a : Int), -(b : Int), (a : Int) + 1, (b : Int) + 1⟩ [] none 0 0 0 0 ((W.alloc (.cells #[.int .u8 p.c0, .int .u8 p.c1, .int .u8 p.c2, .int .u8 p.c3] 32)).alloc (.cells #[.int .i64 (-(a : Int)), .int .i64 (-(b : Int)), .int .i64 ((a : Int) + 1), .int .i64 ((b : Int) + 1), .slice none 0 0] 26))) := ⟨Has5.new (by simp) _ _ _ _ _ _ _ _, oz_nil 4 _ _ _, (Below.refl _ _).alloc (by simp) _⟩
  clear hp hN
  go_enter Try.func7, Try.ntmps7
  go_wp2
  generalize (W.alloc (.cells #[.int .u8 p.c0, .int .u8 p.c1, .int .u8 p.c2, .int .u8 p.c3] 32)).alloc (.cells #[.int .i64 (-(a : Int)), .int .i64 (-(b : Int)), .int .i64 ((a : Int) + 1), .int .i64 ((b : Int) + 1), .slice none 0 0] 26) = W1 at HG0 ⊢
  generalize (W.alloc (.cells #[.int .u8 p.c0, .int .u8 p.c1, .int .u8 p.c2, .int .u8 p.c3] 32)) = W2 at H0 HG0 ⊢
  go_loopg [10] N (fun gh v10 wr => ∃ (i : Nat) (oo : Option Addr) (om og ooff : Nat), i ≤ N ∧ gh = N - i ∧ v10 = .int .i64 (i : Int) ∧ Gs W2 (W.heap.size + 1) ⟨-(a : Int), -(b : Int), (a : Int) + 1, (b : Int) + 1⟩ (List.replicate i p) oo i om og ooff wr)
  case atStart => exact ⟨0, none, 0, 0, 0, Nat.zero_le _, rfl, rfl, HG0.out⟩
  case round =>
    clear HG0
    obtain ⟨i, oo, om, og, ooff, hi, rfl, rfl, hG⟩ := hrel
    have HG := hid hG
    have e0 : wr.cell? ⟨W.heap.size + 1, 0, none⟩ = some (.int .i64 (-(a : Int))) := hG.o.c0
    have e1 : wr.cell? ⟨W.heap.size + 1, 1, none⟩ = some (.int .i64 (-(b : Int))) := hG.o.c1
    have e2 : wr.cell? ⟨W.heap.size + 1, 2, none⟩ = some (.int .i64 ((a : Int) + 1)) := hG.o.c2
    have e3 : wr.cell? ⟨W.heap.size + 1, 3, none⟩ = some (.int .i64 ((b : Int) + 1)) := hG.o.c3
    have e4 := hG.o.c4
    have ef := hG.o.fz
    have HX := hid (has4_low H0.out.1 hG.low (Nat.lt_succ_self _))
    obtain ⟨d0, d1, d2, d3, df⟩ := HX.out
    by_cases hlt : i < N
    · obtain ⟨b', off', hF, hc4, hz4, hG3⟩ := hG.app (by omega) p _ rfl _ rfl
      have HG3 := hid hG3
      have hltz : (i : Int) < (N : Int) := by omega
      clear hG3 hG
      go_wp2
      go_roundg (N - (i + 1))
      case measure => omega
      case rel => exact ⟨i + 1, _, _, _, _, by omega, rfl, by simp, by rw [List.replicate_succ']; exact HG3.out⟩
    · obtain rfl : i = N := by omega
      have HL : Hid (Below W.heap.size W wr) := H0.out.2.1.trans (hG.low.mono (Nat.le_succ _))
      have HV : Hid (Vx wr oo i om og ooff (List.replicate i p)) := hG.x.v
      have HD := HX
      clear hG HG
      go_upto_region 9 with (go_at_call 12; with_reducible refine Calls.mono (box_one p a b oo i om og ooff _ HP.out ha12 hb12 HN.out HV.out) ?_; rintro e w2 ⟨⟨cm, cg, coff, rfl, hO⟩, hb2⟩; have HO := hid hO; have HB2 := hid hb2; clear hO hb2)
      have HO2 := hid (HO.out.below ((Below.refl _ _).alloc (Nat.le_refl _) (.cells #[.int .i64 0, .int .i64 0, .int .i64 1, .int .i64 1, .slice (some ⟨cg, coff, none⟩) 1 cm] 26)))
      have HD2 := hid ((HD.out.below HB2.out).below ((Below.refl _ _).alloc (Nat.le_refl _) (.cells #[.int .i64 0, .int .i64 0, .int .i64 1, .int .i64 1, .slice (some ⟨cg, coff, none⟩) 1 cm] 26)))
      have HL2 := hid ((Rc.via HL.out HB2.out).alloc (Rc.via HL.out HB2.out).size (.cells #[.int .i64 0, .int .i64 0, .int .i64 1, .int .i64 1, .slice (some ⟨cg, coff, none⟩) 1 cm] 26))
      have hS : S9 w2.heap.size cg coff W.heap.size (.slice (some ⟨cg, coff, none⟩) 1 cm) p (w2.alloc (.cells #[.int .i64 0, .int .i64 0, .int .i64 1, .int .i64 1, .slice (some ⟨cg, coff, none⟩) 1 cm] 26)) := by
        have h5 := Has5.new (W := w2) (k := w2.heap.size) rfl 0 0 1 1 (some ⟨cg, coff, none⟩) 1 cm 26
        have h4 := (vx_at0 HO2.out).2
        have h3 := HD2.out
        exact ⟨h5.c4, h4, h3.c0, h3.c1, h3.c2, h3.c3⟩
      have hqq := eqB_yes (p := p) (q := p) rfl
      clear e0 e1 e2 e3 e4 ef d0 d1 d2 d3 df
      generalize w2.alloc (.cells #[.int .i64 0, .int .i64 0, .int .i64 1, .int .i64 1, .slice (some ⟨cg, coff, none⟩) 1 cm] 26) = W3 at HO2 HD2 HL2 hS ⊢
      generalize w2.heap.size = k11 at hS ⊢
      go_region_held3 (fun w' => w'.cell? ⟨k11, 4, none⟩ = some (.slice (some ⟨cg, coff, none⟩) 1 cm) ∧ (w'.cell? ⟨cg, coff, none⟩ = some (.int .u8 p.c0) ∧ w'.cell? ⟨cg, coff + 1, none⟩ = some (.int .u8 p.c1) ∧ w'.cell? ⟨cg, coff + 2, none⟩ = some (.int .u8 p.c2) ∧ w'.cell? ⟨cg, coff + 3, none⟩ = some (.int .u8 p.c3)) ∧ (w'.cell? ⟨W.heap.size, 0, none⟩ = some (.int .u8 p.c0) ∧ w'.cell? ⟨W.heap.size, 1, none⟩ = some (.int .u8 p.c1) ∧ w'.cell? ⟨W.heap.size, 2, none⟩ = some (.int .u8 p.c2) ∧ w'.cell? ⟨W.heap.size, 3, none⟩ = some (.int .u8 p.c3))) (repeat (first | with_reducible assumption | with_reducible refine s9_drew ?_ | with_reducible refine s9_below ?_ ‹_›))
        ((go_at_call 9; with_reducible refine Calls.mono (awake_any _) ?_; rintro e w5 ⟨rfl, hb5⟩; have HB5 := hid (Rc.via HL2.out.drew hb5)))
      go_wp2
      go_ret
      exact ⟨rfl, HB5.out⟩

theorem own : ownKnob Try.prog.godebug = none := by kernel_rfl

set_option maxRecDepth 100000 in
theorem lifted (os : Os) (started : os.Started) (H : Type) (enc : TypeId × Value → H) :
    ReturnsInHanded {} Try.checked os 7 .any (Rows.blurSameSpec.pre6 enc Try.prog Try.f7 Rows.blurSameRow.domain false) (Rows.blurSameSpec.post enc Try.prog Try.f7 false true false false) := by
  refine returnsInHanded_of_change (C := Try.checked) own started (by kernel_rfl) Try.func7
    (ChangeSpec.witness6 (enc := enc) (C := Try.checked) false ⟨#[], #[.agg #[.int .u8 0, .int .u8 0, .int .u8 0, .int .u8 0], .int .u8 0, .int .u8 0], []⟩ 8 (by kernel_rfl) (by kernel_rfl) (by kernel_rfl) (by kernel_rfl)) ?_
  intro W base args ds gs before hval0 hW hcnd _
  have hval : ∀ (j : Nat) t v, Try.f7.params[j]? = some t → args[j]? = some v → Value.okWide Try.prog W .any base t v := hval0
  have hW' := hW
  obtain ⟨p, q, hA0, hV, rfl, hfz, hnd⟩ := hW
  have hA : DataW.TrodAll enc Try.prog W 0 (fun _ => true) true Try.f7.params.toList args.toList ds p := hA0
  rw [Try.params7] at hA hval
  obtain ⟨v0, vs0, d0, ds0, p0, q0, hargs, rfl, rfl, h0, r0⟩ := trodAll_cons hA
  obtain ⟨v1, vs1, d1, ds1, p1, q1, rfl, rfl, rfl, h1, r1⟩ := trodAll_cons r0
  obtain ⟨v2, vs2, d2, ds2, p2, q2, rfl, rfl, rfl, h2, r2⟩ := trodAll_cons r1
  obtain ⟨rfl, rfl, rfl⟩ := trodAll_nil r2
  obtain rfl : args = #[v0, v1, v2] := by cases args; simp_all
  obtain ⟨rfl, rfl⟩ := trodVars_none hV
  obtain ⟨px, rfl, hb0⟩ := open_px (hval 0 32 v0 rfl rfl) h0
  obtain ⟨rx, rfl, -, -, hw1⟩ := open_int Try.underlying5 (hval 1 5 v1 rfl rfl) h1
  obtain ⟨ry, rfl, -, -, hw2⟩ := open_int Try.underlying5 (hval 2 5 v2 rfl rfl) h2
  clear hA0 hval0
  simp only [List.append_nil] at hW'
  have hlt : ∀ x ∈ p0 ++ (p1 ++ (p2)), x.block < W.heap.size := fun x hx => by simpa using hW'.lt x (by simpa using hx)
  refine (walk px rx ry W hb0 (u8_wf hw1) (u8_wf hw2)).mono fun e W' ⟨he, hg⟩ => ?_
  subst he
  have t0 := Below.trod laidOut (by kernel_rfl) (of_decide_eq_true (by kernel_rfl)) h0 hg (fun x hx => hlt x (List.mem_append_left _ hx))
  have t1 := Below.trod laidOut (by kernel_rfl) (of_decide_eq_true (by kernel_rfl)) h1 hg (fun x hx => hlt x (List.mem_append_right _ (List.mem_append_left _ hx)))
  have t2 := Below.trod laidOut (by kernel_rfl) (of_decide_eq_true (by kernel_rfl)) h2 hg (fun x hx => hlt x (List.mem_append_right _ (List.mem_append_right _ (hx))))
  exact ⟨_, rfl, ⟨_, _, _, _, _, _, hW', (trodAll_cons_mk (shut_bool Try.underlying4 _) trodAll_mk0), (trodAll_cons_mk t0 (trodAll_cons_mk t1 (trodAll_cons_mk t2 trodAll_mk0))), rfl, hg.frame _, fun h => by cases h⟩⟩

theorem over : Rows.blurSameRow.holds Try.pinned (OpenSpec.ofChange Rows.blurSameSpec) :=
  OpenClaim.holds_of_wide 7 Try.f7 rfl rfl rfl rfl rfl rfl rfl ⟨rfl, rfl, rfl, rfl, rfl⟩ rfl rfl rfl rfl rfl (by kernel_rfl) Try.func7 (by kernel_rfl)
    (of_decide_eq_true (by kernel_rfl)) (by unfold Func.isWrapper; first | (rw [if_pos (by decide +kernel)]; kernel_rfl) | (rw [if_neg (by decide +kernel)]; exact ⟨rfl, rfl⟩))
    (fun os started H enc _ => lifted os started H enc)

theorem proved : Rows.BlurSameSaid := over
#print axioms proved
end Go.Proofs.Ytbcgnnjkhgpkmaa.blurSame
