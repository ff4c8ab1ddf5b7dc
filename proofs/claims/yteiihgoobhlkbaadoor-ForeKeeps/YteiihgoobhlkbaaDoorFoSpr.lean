/- How far a change of its inputs spreads over a node: the contract. -/
import Derived.Test.YteiihgoobhlkbaaDoorFoCall
import Derived.BigQuiet
namespace Go.Proofs.YteiihgoobhlkbaaDoor
open Num Go.RowKit
open Rg.Num (Inv Pr spA allJ mvL grL oneS boxQ allR setsL orF andF Fits Sub)
set_option linter.unusedVariables false
set_option linter.unusedSimpArgs false

theorem allJ_step {ls : List (List Rg.Num.R)} {k : Nat} {l : List Rg.Num.R} (h : ls[k]? = some l) : allJ (ls.take (k + 1)) = setsL orF (allJ (ls.take k)) l := by
  obtain ⟨hk, rfl⟩ := List.getElem?_eq_some_iff.1 h
  unfold allJ
  rw [List.take_succ_eq_append_getElem hk, List.foldl_append]
  rfl
theorem has8_lit (w : World) (q : Nat → Int) (t : TypeId) : Has8 (w.alloc (.cells #[.int .i64 (q 0), .int .i64 (q 1), .int .i64 (q 2), .int .i64 (q 3), .int .i64 (q 4), .int .i64 (q 5), .int .i64 (q 6), .int .i64 (q 7)] t)) w.heap.size q := by
  refine ⟨fun j hj => ?_, fun j => World.frozen?_alloc_new w _ _ j⟩
  rw [World.cell?_alloc_new w _ _ j]
  have : j = 0 ∨ j = 1 ∨ j = 2 ∨ j = 3 ∨ j = 4 ∨ j = 5 ∨ j = 6 ∨ j = 7 := by omega
  rcases this with rfl | rfl | rfl | rfl | rfl | rfl | rfl | rfl <;> rfl
abbrev Sq (w1 : World) (k : Nat) (q0 q1 q2 q3 : Int) (w' : World) : Prop := (w'.cell? ⟨k, 0, none⟩ = some (.int .i64 q0) ∧ w'.cell? ⟨k, 1, none⟩ = some (.int .i64 q1) ∧ w'.cell? ⟨k, 2, none⟩ = some (.int .i64 q2) ∧ w'.cell? ⟨k, 3, none⟩ = some (.int .i64 q3)) ∧ Below w1.heap.size w1 w'
theorem sq_drew {w1 : World} {k : Nat} {q0 q1 q2 q3 : Int} {w' : World} (h : Sq w1 k q0 q1 q2 q3 w') : Sq w1 k q0 q1 q2 q3 w'.drew := ⟨h.1, h.2.drew⟩
theorem sq_below {w1 : World} {k : Nat} {q0 q1 q2 q3 : Int} {w' w2 : World} (h : Sq w1 k q0 q1 q2 q3 w') (hb : Below w'.heap.size w' w2) : Sq w1 k q0 q1 q2 q3 w2 := ⟨⟨cell_below hb h.1.1, cell_below hb h.1.2.1, cell_below hb h.1.2.2.1, cell_below hb h.1.2.2.2⟩, via h.2 hb⟩
theorem al {W : World} (o : Obj) : Below W.heap.size W (W.alloc o) := (Below.refl _ _).alloc (Nat.le_refl _) _

theorem n_none {w W : World} {ao : Option Addr} {n c b off : Nat} {l : List Rg.Num.R} (h : Hv w W ao n c b off l) (e : l = []) : n = 0 := by
  have := Rg.vw_len h.own.v
  rw [e] at this
  exact this.symm
theorem n_some {w W : World} {ao : Option Addr} {n c b off : Nat} {l : List Rg.Num.R} (h : Hv w W ao n c b off l) (e : 0 < l.length) : 0 < (n : Int) := by
  have := Rg.vw_len h.own.v
  omega
theorem ok_all' : Rg.Num.Ok ⟨-4398046511104, -4398046511104, 4398046511104, 4398046511104⟩ := Rg.Num.ok_all
theorem inv_box {op : Int} {q : Nat → Int} (hp : Pr op q) (ho : op = 10 ∨ op = 12) {X Y : List Int} {A : List Rg.Num.R} (h : Inv X Y A) (hw : X.length ≤ 30000 ∧ Y.length ≤ 30000) :
    ∃ X' Y', Fw X' Y' ∧ Inv X' Y' A ∧ Inv X' Y' (oneS ⟨q 0, q 1, q 2, q 3⟩) ∧ Rg.Num.Ok ⟨q 0, q 1, q 2, q 3⟩ :=
  ⟨X ++ [q 0, q 2], Y ++ [q 1, q 3], ⟨by rw [List.length_append]; simp only [List.length_cons, List.length_nil]; omega, by rw [List.length_append]; simp only [List.length_cons, List.length_nil]; omega⟩, Rg.Num.inv_mono h Rg.Num.inL' Rg.Num.inL', Rg.Num.inv_mono (Rg.Num.inv_one (hp.b ho)) Rg.Num.inR' Rg.Num.inR', hp.b ho⟩
theorem inv_sh {X Y : List Int} {A : List Rg.Num.R} (h : Inv X Y A) (hw : X.length ≤ 30000 ∧ Y.length ≤ 30000) (a b k l : Int) :
    ∃ X1 Y1 X2 Y2, Fw X1 Y1 ∧ Fw X2 Y2 ∧ Inv X1 Y1 (mvL A a b) ∧ Inv X2 Y2 A ∧ Inv X2 Y2 (grL (mvL A a b) k l) :=
  ⟨_, _, X ++ Rg.Num.xG (Rg.Num.xM X a) k, Y ++ Rg.Num.xG (Rg.Num.xM Y b) l, ⟨by rw [Rg.Num.xM_len]; omega, by rw [Rg.Num.xM_len]; omega⟩, ⟨by rw [List.length_append, Rg.Num.xG_len, Rg.Num.xM_len]; omega, by rw [List.length_append, Rg.Num.xG_len, Rg.Num.xM_len]; omega⟩,
    Rg.Num.inv_move h a b, Rg.Num.inv_mono h Rg.Num.inL' Rg.Num.inL', Rg.Num.inv_mono (Rg.Num.inv_grow (Rg.Num.inv_move h a b) k l) Rg.Num.inR' Rg.Num.inR'⟩

set_option maxRecDepth 100000 in
set_option maxHeartbeats 4000000 in
theorem spread_any (op : Int) (ai : Option Addr) (ni ci : Nat) (ap : Option Addr) (np cp bp ob : Nat) (p : List Int) (io : Option Addr) (n c b off : Nat) (V : List Rv) (w : World)
    (hp : Vi w ap np cp bp ob p) (hV : Vf w io n c b off V) (hpr : Pr op (nth p)) (X Y : List Int) (hX : X.length ≤ 30000) (hY : Y.length ≤ 30000) (hI : ∀ v, v ∈ V → Inv X Y v.l) :
    Calls Tryd.prog 21 #[.agg #[.int .i64 op, .slice ai ni ci, .slice ap np cp], .slice io n c] w fun e w' => Rg.RetO w.heap.size w' e (spA op (nth p) (allJ (V.map Rv.l))) ∧ Below w.heap.size w w' := by
  have hl := vf_len hV
  have hn := vz_small hV.z
  have hw : Fw X Y := ⟨by omega, by omega⟩
  have hw30 : X.length ≤ 30000 ∧ Y.length ≤ 30000 := ⟨hX, hY⟩
  have hIt : ∀ k, Inv X Y (allJ ((V.map Rv.l).take k)) := fun k => Rg.Num.inv_allJ fun l hl => by
    obtain ⟨v, hv, rfl⟩ := List.mem_map.1 (List.mem_of_mem_take hl)
    exact hI v hv
  have hN0 := nb_new w op ai ni ci ap np cp 39
  have hB0 : Below w.heap.size w (w.alloc (.cells #[.int .i64 op, .slice ai ni ci, .slice ap np cp] 39)) := al _
  have H := hid (And.intro hp (And.intro hV (And.intro hpr (And.intro hw (And.intro hI (And.intro hIt hl))))))
  have H0 := hid (And.intro hN0 hB0)
  obtain ⟨A, hAe⟩ : ∃ A, A = allJ (V.map Rv.l) := ⟨_, rfl⟩
  obtain ⟨Z, hZ⟩ : ∃ Z, Z = spA op (nth p) A := ⟨_, rfl⟩
  rw [← hAe, ← hZ]
  have HAe := hid hAe
  have HZ := hid hZ
  clear hAe hZ
  clear hp hV hpr hw hI hIt hl hX hY hN0 hB0
  go_enter Tryd.func21, Tryd.ntmps21
  go_wp2
  go_loopg [5, 11] n (fun g v5 v11 wr => ∃ (k : Nat) (ao1 : Option Addr) (n1 c1 b1 off1 : Nat), k ≤ n ∧ g = n - k ∧ v11 = .int .i64 k ∧ v5 = .slice ao1 n1 c1 ∧ Hv w wr ao1 n1 c1 b1 off1 (allJ ((V.map Rv.l).take k)) ∧ Nb wr w.heap.size op ai ni ci ap np cp)
  case atStart => exact ⟨0, _, _, _, _, _, Nat.zero_le _, rfl, rfl, rfl, hv_nil H0.out.2 _, H0.out.1⟩
  case round =>
    obtain ⟨k, ao1, n1, c1, b1, off1, hk, rfl, rfl, rfl, hA, hN⟩ := hrel
    have HA := hid (And.intro hA hN)
    clear H0
    by_cases hlt : k < n
    · have hlz : (k : Int) < (n : Int) := by omega
      obtain ⟨v, hv⟩ : ∃ v, V[k]? = some v := ⟨_, List.getElem?_eq_getElem (by rw [H.out.2.2.2.2.2.2]; exact hlt)⟩
      obtain ⟨rfl, e0⟩ := vf_at (H.out.2.1.below hA.low) hv
      have hm := List.mem_of_getElem? hv
      have HS := hid (allJ_step (ls := V.map Rv.l) (k := k) (l := v.l) (by rw [List.getElem?_map, hv]; rfl))
      have HV := hid (And.intro (Rg.Vz.below (H.out.2.1.v v hm) hA.low) (H.out.2.2.2.2.1 v hm))
      clear hA hN hv hm
      go_wp2_with (go_at_call 33; with_reducible refine Calls.mono (join_c HA.out.1 (H.out.2.2.2.2.2.1 k) H.out.2.2.2.1 HV.out.1 HV.out.2) ?_; rintro e w1 hr; obtain ⟨ao2, n2, c2, b2, off2, rfl, H2, hb2⟩ := retH hr; clear hr)
      go_roundg (n - (k + 1))
      case measure => omega
      case rel => exact ⟨k + 1, _, _, _, b2, off2, hlt, rfl, by simp, rfl, by rw [HS.out]; exact H2.out, HA.out.2.below hb2.out⟩
    · obtain rfl : n = k := by omega
      have hall : (V.map Rv.l).take n = V.map Rv.l := List.take_of_length_le (by rw [List.length_map, H.out.2.2.2.2.2.2]; exact Nat.le_refl _)
      have hIA := H.out.2.2.2.2.2.1 n
      rw [hall, ← HAe.out] at HA hIA
      have HP := hid (And.intro H.out.2.2.1 (And.intro H.out.2.2.2.1 hIA))
      have HW := hid hw30
      have HI := hid (H.out.1.below HA.out.1.low)
      obtain ⟨k0, k1, k2⟩ := id HA.out.2
      clear hA hN hall hIA HAe H hlt hk
      by_cases h1 : op = 1
      · subst h1
        have hq := HP.out.1.m (Or.inl rfl)
        have HQ := hid (And.intro hq (show spA 1 (nth p) A = mvL A (nth p 0) (nth p 1) from rfl))
        clear hq
        go_wp2_with (first
          | (go_at_call 34; with_reducible refine Calls.mono (param_any _ _ _ _ _ _ _ bp ob p _ HI.out) ?_; rintro e w2 ⟨rfl, hb⟩; have H2 := hid (HA.out.1.to hb); have j0 := (HA.out.2.below hb).c0; have jj : w.heap.size < w2.heap.size := World.block_lt_of_cell? _ _ j0; clear hb k0 k1 k2)
          | (go_at_call 35; with_reducible refine Calls.mono (move_c (H2.out.to (al _)) HP.out.2.2 HP.out.2.1 HQ.out.1.1 HQ.out.1.2) ?_; rintro e w4 hr; obtain ⟨ao4, n4, c4, b4, off4, rfl, H4, hb4⟩ := retH hr; clear hr))
        go_ret
        exact ⟨⟨_, _, _, b4, off4, rfl, by rw [HZ.out, HQ.out.2]; exact H4.out.own⟩, H4.out.low⟩
      by_cases h2 : op = 2
      · subst h2
        have HQ := hid (And.intro (HP.out.1.g (by decide)) (show spA 2 (nth p) A = grL A (nth p 0) (nth p 1) from rfl))
        go_wp2_with (first
          | (go_at_call 34; with_reducible refine Calls.mono (param_any _ _ _ _ _ _ _ bp ob p _ HI.out) ?_; rintro e w2 ⟨rfl, hb⟩; have H2 := hid (HA.out.1.to hb); have j0 := (HA.out.2.below hb).c0; have jj : w.heap.size < w2.heap.size := World.block_lt_of_cell? _ _ j0; clear hb k0 k1 k2)
          | (go_at_call 36; with_reducible refine Calls.mono (grow_c (H2.out.to (al _)) HP.out.2.2 HP.out.2.1 HQ.out.1.1 HQ.out.1.2) ?_; rintro e w4 hr; obtain ⟨ao4, n4, c4, b4, off4, rfl, H4, hb4⟩ := retH hr; clear hr))
        go_ret
        exact ⟨⟨_, _, _, b4, off4, rfl, by rw [HZ.out, HQ.out.2]; exact H4.out.own⟩, H4.out.low⟩
      by_cases h3 : op = 3
      · subst h3
        have HQ := hid (And.intro (HP.out.1.g (by decide)) (show spA 3 (nth p) A = grL A (nth p 0) (nth p 1) from rfl))
        go_wp2_with (first
          | (go_at_call 34; with_reducible refine Calls.mono (param_any _ _ _ _ _ _ _ bp ob p _ HI.out) ?_; rintro e w2 ⟨rfl, hb⟩; have H2 := hid (HA.out.1.to hb); have j0 := (HA.out.2.below hb).c0; have jj : w.heap.size < w2.heap.size := World.block_lt_of_cell? _ _ j0; clear hb k0 k1 k2)
          | (go_at_call 36; with_reducible refine Calls.mono (grow_c (H2.out.to (al _)) HP.out.2.2 HP.out.2.1 HQ.out.1.1 HQ.out.1.2) ?_; rintro e w4 hr; obtain ⟨ao4, n4, c4, b4, off4, rfl, H4, hb4⟩ := retH hr; clear hr))
        go_ret
        exact ⟨⟨_, _, _, b4, off4, rfl, by rw [HZ.out, HQ.out.2]; exact H4.out.own⟩, H4.out.low⟩
      by_cases h4 : op = 4
      · subst h4
        have HQ := hid (And.intro (HP.out.1.g (by decide)) (show spA 4 (nth p) A = grL A (nth p 0) (nth p 1) from rfl))
        go_wp2_with (first
          | (go_at_call 34; with_reducible refine Calls.mono (param_any _ _ _ _ _ _ _ bp ob p _ HI.out) ?_; rintro e w2 ⟨rfl, hb⟩; have H2 := hid (HA.out.1.to hb); have j0 := (HA.out.2.below hb).c0; have jj : w.heap.size < w2.heap.size := World.block_lt_of_cell? _ _ j0; clear hb k0 k1 k2)
          | (go_at_call 36; with_reducible refine Calls.mono (grow_c (H2.out.to (al _)) HP.out.2.2 HP.out.2.1 HQ.out.1.1 HQ.out.1.2) ?_; rintro e w4 hr; obtain ⟨ao4, n4, c4, b4, off4, rfl, H4, hb4⟩ := retH hr; clear hr))
        go_ret
        exact ⟨⟨_, _, _, b4, off4, rfl, by rw [HZ.out, HQ.out.2]; exact H4.out.own⟩, H4.out.low⟩
      by_cases h5 : op = 5
      · subst h5
        have HQ := hid (show spA 5 (nth p) A = A from rfl)
        go_wp2_with (go_at_call 34; with_reducible refine Calls.mono (param_any _ _ _ _ _ _ _ bp ob p _ HI.out) ?_; rintro e w2 ⟨rfl, hb⟩; have H2 := hid (HA.out.1.to hb); have j0 := (HA.out.2.below hb).c0; have jj : w.heap.size < w2.heap.size := World.block_lt_of_cell? _ _ j0; clear hb k0 k1 k2)
        go_ret
        exact ⟨⟨_, _, _, b1, off1, rfl, by rw [HZ.out, HQ.out]; exact (H2.out.to (al _)).own⟩, (H2.out.to (al _)).low⟩
      by_cases h7 : op = 7
      · subst h7
        have HQ := hid (show spA 7 (nth p) A = A from rfl)
        go_wp2_with (go_at_call 34; with_reducible refine Calls.mono (param_any _ _ _ _ _ _ _ bp ob p _ HI.out) ?_; rintro e w2 ⟨rfl, hb⟩; have H2 := hid (HA.out.1.to hb); have j0 := (HA.out.2.below hb).c0; have jj : w.heap.size < w2.heap.size := World.block_lt_of_cell? _ _ j0; clear hb k0 k1 k2)
        go_ret
        exact ⟨⟨_, _, _, b1, off1, rfl, by rw [HZ.out, HQ.out]; exact (H2.out.to (al _)).own⟩, (H2.out.to (al _)).low⟩
      by_cases h8 : op = 8
      · subst h8
        have HQ := hid (show spA 8 (nth p) A = A from rfl)
        go_wp2_with (go_at_call 34; with_reducible refine Calls.mono (param_any _ _ _ _ _ _ _ bp ob p _ HI.out) ?_; rintro e w2 ⟨rfl, hb⟩; have H2 := hid (HA.out.1.to hb); have j0 := (HA.out.2.below hb).c0; have jj : w.heap.size < w2.heap.size := World.block_lt_of_cell? _ _ j0; clear hb k0 k1 k2)
        go_ret
        exact ⟨⟨_, _, _, b1, off1, rfl, by rw [HZ.out, HQ.out]; exact (H2.out.to (al _)).own⟩, (H2.out.to (al _)).low⟩
      by_cases h9 : op = 9
      · subst h9
        have HQ := hid (show spA 9 (nth p) A = A from rfl)
        go_wp2_with (go_at_call 34; with_reducible refine Calls.mono (param_any _ _ _ _ _ _ _ bp ob p _ HI.out) ?_; rintro e w2 ⟨rfl, hb⟩; have H2 := hid (HA.out.1.to hb); have j0 := (HA.out.2.below hb).c0; have jj : w.heap.size < w2.heap.size := World.block_lt_of_cell? _ _ j0; clear hb k0 k1 k2)
        go_ret
        exact ⟨⟨_, _, _, b1, off1, rfl, by rw [HZ.out, HQ.out]; exact (H2.out.to (al _)).own⟩, (H2.out.to (al _)).low⟩
      by_cases h12 : op = 12
      · subst h12
        have HQ := hid (show spA 12 (nth p) A = setsL andF A (oneS ⟨nth p 0, nth p 1, nth p 2, nth p 3⟩) from rfl)
        obtain ⟨X', Y', hx⟩ := inv_box HP.out.1 (by decide) HP.out.2.2 HW.out
        have HX := hid hx
        clear hx
        go_wp2_with (first
          | (go_at_call 34; with_reducible refine Calls.mono (param_any _ _ _ _ _ _ _ bp ob p _ HI.out) ?_; rintro e w2 ⟨rfl, hb⟩; have H2 := hid (HA.out.1.to hb); have j0 := (HA.out.2.below hb).c0; have jj : w.heap.size < w2.heap.size := World.block_lt_of_cell? _ _ j0; clear hb k0 k1 k2)
          | (go_at_call 39; with_reducible refine Calls.mono (edges_any _ _ _ (has8_lit w2 (nth p) 62)) ?_; rintro e w3 ⟨rfl, hb⟩; have H3 := hid ((H2.out.to (al _)).to hb); clear hb)
          | (go_at_call 38; with_reducible refine Calls.mono (one_c H3.out.low (r := ⟨nth p 0, nth p 1, nth p 2, nth p 3⟩) HX.out.2.2.2) ?_; rintro e w4 hr; obtain ⟨ao4, n4, c4, b4, off4, rfl, H4, hb4⟩ := retH hr; have H5 := hid (H3.out.to hb4.out); clear hr hb4)
          | (go_at_call 37; with_reducible refine Calls.mono (meet_c H5.out HX.out.2.1 HX.out.1 H4.out.own.v HX.out.2.2.1) ?_; rintro e w5 hr; obtain ⟨ao6, n6, c6, b6, off6, rfl, H6, hb6⟩ := retH hr; clear hr))
        go_ret
        exact ⟨⟨_, _, _, b6, off6, rfl, by rw [HZ.out, HQ.out]; exact H6.out.own⟩, H6.out.low⟩
      by_cases h10 : op = 10
      · subst h10
        have HQ := hid (show spA 10 (nth p) A = if setsL andF A (oneS ⟨nth p 0, nth p 1, nth p 2, nth p 3⟩) = [] then [] else oneS allR from rfl)
        obtain ⟨X', Y', hx⟩ := inv_box HP.out.1 (by decide) HP.out.2.2 HW.out
        have HX := hid hx
        clear hx
        by_cases he : setsL andF A (oneS ⟨nth p 0, nth p 1, nth p 2, nth p 3⟩) = []
        · have HE := hid he
          rw [if_pos he] at HQ
          clear he
          go_wp2_with (first
            | (go_at_call 34; with_reducible refine Calls.mono (param_any _ _ _ _ _ _ _ bp ob p _ HI.out) ?_; rintro e w2 ⟨rfl, hb⟩; have H2 := hid (HA.out.1.to hb); have j0 := (HA.out.2.below hb).c0; have jj : w.heap.size < w2.heap.size := World.block_lt_of_cell? _ _ j0; clear hb k0 k1 k2)
            | (go_at_call 39; with_reducible refine Calls.mono (edges_any _ _ _ (has8_lit w2 (nth p) 62)) ?_; rintro e w3 ⟨rfl, hb⟩; have H3 := hid ((H2.out.to (al _)).to hb); clear hb)
            | (go_at_call 38; with_reducible refine Calls.mono (one_c H3.out.low (r := ⟨nth p 0, nth p 1, nth p 2, nth p 3⟩) HX.out.2.2.2) ?_; rintro e w4 hr; obtain ⟨ao4, n4, c4, b4, off4, rfl, H4, hb4⟩ := retH hr; have H5 := hid (H3.out.to hb4.out); clear hr hb4)
            | (go_at_call 37; with_reducible refine Calls.mono (meet_c H5.out HX.out.2.1 HX.out.1 H4.out.own.v HX.out.2.2.1) ?_; rintro e w5 hr; obtain ⟨ao6, n6, c6, b6, off6, rfl, H6, hb6⟩ := retH hr; clear hr; have hn6 := n_none H6.out HE.out; subst hn6))
          go_ret
          exact ⟨⟨_, _, _, 0, 0, rfl, by rw [HZ.out, HQ.out]; exact Rg.oz_nil _ _ _ _⟩, H6.out.low⟩
        · have HE := hid (List.length_pos_iff.2 he)
          rw [if_neg he] at HQ
          clear he
          go_wp2_with (first
            | (go_at_call 34; with_reducible refine Calls.mono (param_any _ _ _ _ _ _ _ bp ob p _ HI.out) ?_; rintro e w2 ⟨rfl, hb⟩; have H2 := hid (HA.out.1.to hb); have j0 := (HA.out.2.below hb).c0; have jj : w.heap.size < w2.heap.size := World.block_lt_of_cell? _ _ j0; clear hb k0 k1 k2)
            | (go_at_call 39; with_reducible refine Calls.mono (edges_any _ _ _ (has8_lit w2 (nth p) 62)) ?_; rintro e w3 ⟨rfl, hb⟩; have H3 := hid ((H2.out.to (al _)).to hb); clear hb)
            | (go_at_call 38; with_reducible refine Calls.mono (one_c H3.out.low (r := ⟨nth p 0, nth p 1, nth p 2, nth p 3⟩) HX.out.2.2.2) ?_; rintro e w4 hr; obtain ⟨ao4, n4, c4, b4, off4, rfl, H4, hb4⟩ := retH hr; have H5 := hid (H3.out.to hb4.out); clear hr hb4)
            | (go_at_call 37; with_reducible refine Calls.mono (meet_c H5.out HX.out.2.1 HX.out.1 H4.out.own.v HX.out.2.2.1) ?_; rintro e w5 hr; obtain ⟨ao6, n6, c6, b6, off6, rfl, H6, hb6⟩ := retH hr; clear hr; have hn6 := n_some H6.out HE.out)
            | (go_at_call 40; with_reducible refine Calls.mono (Rg.all_any _) ?_; rintro e w7 ⟨rfl, hb⟩; have H7 := hid (H6.out.to hb); clear hb)
            | (go_at_call 38; with_reducible refine Calls.mono (one_c H7.out.low (r := ⟨-4398046511104, -4398046511104, 4398046511104, 4398046511104⟩) ok_all') ?_; rintro e w8 hr; obtain ⟨ao8, n8, c8, b8, off8, rfl, H8, hb8⟩ := retH hr; clear hr))
          go_ret
          exact ⟨⟨_, _, _, b8, off8, rfl, by rw [HZ.out, HQ.out]; exact H8.out.own⟩, H8.out.low⟩
      by_cases h11 : op = 11
      · subst h11
        have HQ := hid (show spA 11 (nth p) A = setsL orF A (grL (mvL A (nth p 0) (nth p 1)) (nth p 2) (nth p 3)) from rfl)
        have HM := hid (And.intro (HP.out.1.m (by decide)) (HP.out.1.s rfl))
        obtain ⟨X1, Y1, X2, Y2, hx⟩ := inv_sh HP.out.2.2 HW.out (nth p 0) (nth p 1) (nth p 2) (nth p 3)
        have HX := hid hx
        clear hx
        go_wp2_with (go_at_call 34; with_reducible refine Calls.mono (param_any _ _ _ _ _ _ _ bp ob p _ HI.out) ?_; rintro e w2 ⟨rfl, hb⟩; have H2 := hid (HA.out.1.to hb); have j0 := (HA.out.2.below hb).c0; have jj : w.heap.size < w2.heap.size := World.block_lt_of_cell? _ _ j0; clear hb k0 k1 k2)
        have h8 := has8_lit w2 (nth p) 62
        have hHv := H2.out.to (al (W := w2) (.cells #[.int .i64 (nth p 0), .int .i64 (nth p 1), .int .i64 (nth p 2), .int .i64 (nth p 3), .int .i64 (nth p 4), .int .i64 (nth p 5), .int .i64 (nth p 6), .int .i64 (nth p 7)] 62))
        generalize w2.alloc (.cells #[.int .i64 (nth p 0), .int .i64 (nth p 1), .int .i64 (nth p 2), .int .i64 (nth p 3), .int .i64 (nth p 4), .int .i64 (nth p 5), .int .i64 (nth p 6), .int .i64 (nth p 7)] 62) = W3 at *
        generalize w2.heap.size = k8 at *
        have hS : Sq W3 k8 (nth p 0) (nth p 1) (nth p 2) (nth p 3) W3 := ⟨⟨h8.c 0 (by omega), h8.c 1 (by omega), h8.c 2 (by omega), h8.c 3 (by omega)⟩, Below.refl _ _⟩
        have H3 := hid hHv
        clear h8 hHv H2
        go_region_held3 (fun w' => (w'.cell? ⟨k8, 0, none⟩ = some (.int .i64 (nth p 0)) ∧ w'.cell? ⟨k8, 1, none⟩ = some (.int .i64 (nth p 1)) ∧ w'.cell? ⟨k8, 2, none⟩ = some (.int .i64 (nth p 2)) ∧ w'.cell? ⟨k8, 3, none⟩ = some (.int .i64 (nth p 3))) ∧ Below W3.heap.size W3 w') (repeat (first | with_reducible assumption | with_reducible refine sq_drew ?_ | with_reducible refine sq_below ?_ ‹_›)) ((first
          | (go_at_call 35; with_reducible refine Calls.mono (move_c (H3.out.to (Below.refl _ _).drew) HP.out.2.2 HP.out.2.1 HM.out.1.1 HM.out.1.2) ?_; rintro e w4 hr; obtain ⟨ao4, n4, c4, b4, off4, rfl, H4, hb4⟩ := retH hr; have H5 := hid ((H3.out.to (Below.refl _ _).drew).to hb4.out); replace hb4 := hb4.out; clear hr)
          | (go_at_call 36; with_reducible refine Calls.mono (grow_c H4.out HX.out.2.2.1 HX.out.1 HM.out.2.1 HM.out.2.2) ?_; rintro e w6 hr; obtain ⟨ao6, n6, c6, b6, off6, rfl, H6, hb6⟩ := retH hr; have H7 := hid (H5.out.to hb6.out); replace hb6 := hb6.out; clear hr)
          | (go_at_call 33; with_reducible refine Calls.mono (join_c H7.out HX.out.2.2.2.1 HX.out.2.1 H6.out.own.v HX.out.2.2.2.2) ?_; rintro e w8 hr; obtain ⟨ao8, n8, c8, b8, off8, rfl, H8, hb8⟩ := retH hr; replace hb8 := hb8.out; clear hr)))
        clear hS
        go_wp2
        go_ret
        exact ⟨⟨_, _, _, b8, off8, rfl, by rw [HZ.out, HQ.out]; exact H8.out.own⟩, H8.out.low⟩
      have HQ := hid (show spA op (nth p) A = [] by unfold spA; rw [if_neg h1, if_neg (by omega), if_neg (by omega), if_neg h12, if_neg h10, if_neg h11])
      go_wp2_with (go_at_call 34; with_reducible refine Calls.mono (param_any _ _ _ _ _ _ _ bp ob p _ HI.out) ?_; rintro e w2 ⟨rfl, hb⟩; have H2 := hid (HA.out.1.to hb); have j0 := (HA.out.2.below hb).c0; have jj : w.heap.size < w2.heap.size := World.block_lt_of_cell? _ _ j0; clear hb k0 k1 k2)
      go_ret
      exact ⟨⟨_, _, _, 0, 0, rfl, by rw [HZ.out, HQ.out]; exact Rg.oz_nil _ _ _ _⟩, (H2.out.to (al _)).low⟩
end Go.Proofs.YteiihgoobhlkbaaDoor
