/- For every right filter of few nodes, and every rectangle: what is handed in stays, whatever is written into what is answered. -/
import Derived.Test.YtamojciiacmjaaaDoorRows
import Derived.Test.YtamojciiacmjaaaDoorCards
import Derived.Test.YtamojciiacmjaaaDoorTie
import Derived.WalkKit
import Derived.ProofKit
import Derived.OpenShut
import Derived.LaidMore
import Derived.SevenTiedAt
import Derived.Stop.Joined
import Derived.Test.YtamojciiacmjaaaDoorNdOpen
import Derived.Test.YtamojciiacmjaaaDoorNdKeepS
namespace Go.Proofs.YtamojciiacmjaaaDoor.needKeeps
open kp
open Go Go.ChangeShapes Go.WideShapes Go.ChangeAt Go.RowKit Num
open Rg.Num (R empB orN nil moveR grow meet join mvd mx mn cutR Ok Pr boxQ hasB rightB)
set_option linter.unusedVariables false
set_option linter.unusedSimpArgs false
attribute [local go_sem ↓] Rg.eqR
attribute [local go_sem] Rg.eq4_same

attribute [local go_sem ↓] run_app
attribute [local go_sem] lenV_slice
theorem parI_le (op : Int) : parI op ≤ 20 := by unfold parI; split <;> (try omega); split <;> (try omega); split <;> (try omega); split <;> (try omega); split <;> omega
theorem np_le {op : Int} {l p : List Int} {w : World} {ap : Option Addr} {np cp bp ob : Nat} (h : Rn op l p) (hp : Vi w ap np cp bp ob p) : np ≤ 1000 := by
  have h1 := vi_len hp
  have h2 := h.pl
  have h3 := parI_le op
  omega
set_option maxRecDepth 100000 in
set_option maxHeartbeats 4000000 in
theorem walk (ao : Option Addr) (n c b off : Nat) (L : List Nv) (out : Int) (p q r s : Int) (w : World) (h : Vn w ao n c b off L) (hT : Tabs w) :
    Calls Tryd.prog 7 #[.agg #[.slice ao n c, .int .i64 out], .agg #[.int .i64 p, .int .i64 q, .int .i64 r, .int .i64 s]] w fun e w' => e = .returned (.bool true) ∧ Below w.heap.size w w' := by
  have hl := vn_len h
  have HS := hid (lg_new w ao n c out p q r s)
  have HV := hid h
  have HT := hid hT
  have HL := hid hl
  clear h hT
  rcases hr : rightG L out with _ | _
  · have HR := hid hr
    clear hr hl
    go_enter Tryd.func7, Tryd.ntmps7
    go_wp2_with (first
      | (go_at_call 8; with_reducible refine Calls.mono (awake_any _) ?_; rintro e wa ⟨rfl, hb⟩; replace HS := hid (HS.out.to hb); (try clear x0c x1c a0 a1 a2 a3 af); obtain ⟨x0c, x1c⟩ := HS.out.g.1; obtain ⟨a0, a1, a2, a3, af⟩ := id HS.out.s; (try clear jn j1); have jn := World.block_lt_of_cell? _ _ x0c; have j1 := World.block_lt_of_cell? _ _ a0; clear hb)
      | (go_at_call 14; with_reducible refine Calls.mono (right_any _ _ _ b off L _ _ (HT.out.below HS.out.low) (HV.out.below HS.out.low)) ?_; rintro e wa ⟨rfl, hb⟩; rw [HR.out]; replace HS := hid (HS.out.to hb); (try clear x0c x1c a0 a1 a2 a3 af); obtain ⟨x0c, x1c⟩ := HS.out.g.1; obtain ⟨a0, a1, a2, a3, af⟩ := id HS.out.s; (try clear jn j1); have jn := World.block_lt_of_cell? _ _ x0c; have j1 := World.block_lt_of_cell? _ _ a0; clear hb))
    go_ret
    exact ⟨rfl, HS.out.low⟩
  have hrf := rf_of hl hr
  have HR := hid hr
  have HF := hid hrf
  clear hr hrf hl
  rcases ho : rightB ⟨p, q, r, s⟩ with _ | _
  · have HO := hid ho
    clear ho
    go_enter Tryd.func7, Tryd.ntmps7
    go_wp2_with (first
      | (go_at_call 8; with_reducible refine Calls.mono (awake_any _) ?_; rintro e wa ⟨rfl, hb⟩; replace HS := hid (HS.out.to hb); (try clear x0c x1c a0 a1 a2 a3 af); obtain ⟨x0c, x1c⟩ := HS.out.g.1; obtain ⟨a0, a1, a2, a3, af⟩ := id HS.out.s; (try clear jn j1); have jn := World.block_lt_of_cell? _ _ x0c; have j1 := World.block_lt_of_cell? _ _ a0; clear hb)
      | (go_at_call 14; with_reducible refine Calls.mono (right_any _ _ _ b off L _ _ (HT.out.below HS.out.low) (HV.out.below HS.out.low)) ?_; rintro e wa ⟨rfl, hb⟩; rw [HR.out]; replace HS := hid (HS.out.to hb); (try clear x0c x1c a0 a1 a2 a3 af); obtain ⟨x0c, x1c⟩ := HS.out.g.1; obtain ⟨a0, a1, a2, a3, af⟩ := id HS.out.s; (try clear jn j1); have jn := World.block_lt_of_cell? _ _ x0c; have j1 := World.block_lt_of_cell? _ _ a0; clear hb)
      | (go_at_call 10; with_reducible refine Calls.mono (Rg.Rc.right_any p q r s _) ?_; rintro e wa ⟨rfl, hb⟩; rw [HO.out]; replace HS := hid (HS.out.to hb); (try clear x0c x1c a0 a1 a2 a3 af); obtain ⟨x0c, x1c⟩ := HS.out.g.1; obtain ⟨a0, a1, a2, a3, af⟩ := id HS.out.s; (try clear jn j1); have jn := World.block_lt_of_cell? _ _ x0c; have j1 := World.block_lt_of_cell? _ _ a0; clear hb))
    go_ret
    exact ⟨rfl, HS.out.low⟩
  have HO := hid ho
  have HK := hid (ok_right ho)
  have hn1 := HF.out.f.n
  clear ho
  go_enter Tryd.func7, Tryd.ntmps7
  go_wp2_with (first
    | (go_at_call 8; with_reducible refine Calls.mono (awake_any _) ?_; rintro e wa ⟨rfl, hb⟩; replace HS := hid (HS.out.to hb); (try clear x0c x1c a0 a1 a2 a3 af); obtain ⟨x0c, x1c⟩ := HS.out.g.1; obtain ⟨a0, a1, a2, a3, af⟩ := id HS.out.s; (try clear jn j1); have jn := World.block_lt_of_cell? _ _ x0c; have j1 := World.block_lt_of_cell? _ _ a0; clear hb)
    | (go_at_call 14; with_reducible refine Calls.mono (right_any _ _ _ b off L _ _ (HT.out.below HS.out.low) (HV.out.below HS.out.low)) ?_; rintro e wa ⟨rfl, hb⟩; rw [HR.out]; replace HS := hid (HS.out.to hb); (try clear x0c x1c a0 a1 a2 a3 af); obtain ⟨x0c, x1c⟩ := HS.out.g.1; obtain ⟨a0, a1, a2, a3, af⟩ := id HS.out.s; (try clear jn j1); have jn := World.block_lt_of_cell? _ _ x0c; have j1 := World.block_lt_of_cell? _ _ a0; clear hb)
    | (go_at_call 10; with_reducible refine Calls.mono (Rg.Rc.right_any p q r s _) ?_; rintro e w2 ⟨rfl, hb⟩; rw [HO.out]; replace HS := hid (HS.out.to hb); (try clear x0c x1c a0 a1 a2 a3 af); obtain ⟨x0c, x1c⟩ := HS.out.g.1; obtain ⟨a0, a1, a2, a3, af⟩ := id HS.out.s; (try clear jn j1); have jn := World.block_lt_of_cell? _ _ x0c; have j1 := World.block_lt_of_cell? _ _ a0; clear hb))
  go_loopg [6] n (fun gk x6 wr => ∃ (w3 : World) (i : Nat), w3 = wr ∧ i ≤ n ∧ gk = n - i ∧ x6 = .int .i64 i ∧ ∃ aP cP p' q' M, Ks w w2 ao n c out L i aP cP p' q' M w3)
  case atStart =>
    clear x0c x1c
    refine ⟨_, 0, rfl, Nat.zero_le _, rfl, rfl, none, 0, 0, 0, [], ?_⟩
    have hb : Below w2.heap.size w2 (w2.alloc (.cells #[.slice none 0 0, .int .i64 out] 36)) := (Below.refl _ _).alloc (Nat.le_refl _) _
    exact ⟨sg_below HS.out.g hb, hb, World.cell?_alloc_new w2 _ _ 0, World.cell?_alloc_new w2 _ _ 1, World.frozen?_alloc_new w2 _ _ 0, nw_nil _ _ _, rfl, World.block_lt_of_cell? _ _ HS.out.g.1.1⟩
  case round =>
    obtain ⟨w3, i, rfl, hi, rfl, rfl, aP, cP, p', q', M, hks⟩ := hrel
    clear x0c x1c a0 a1 a2 a3 af jn j1
    have HKs := hid hks
    obtain ⟨⟨x0, x1⟩, -⟩ := id hks.sg
    have y0 := hks.c0
    have hfz := hks.fz
    by_cases hlt : i < n
    · have hltz : (i : Int) < (n : Int) := by omega
      obtain ⟨v, hv⟩ : ∃ v, L[i]? = some v := ⟨_, List.getElem?_eq_getElem (by rw [HL.out]; exact hlt)⟩
      obtain ⟨rfl, ⟨f0, f1, f2⟩, hvi, hvp⟩ := vn_at (HV.out.below hks.sg.2) hv
      have hni := HF.out.f.i v (List.mem_of_getElem? hv)
      have hnp := np_le (HF.out.r v (List.mem_of_getElem? hv)) hvp
      have hS : S5 w.heap.size w2.heap.size b (off + i * 3) (.slice (some ⟨b, off, none⟩) n c) (.slice aP i cP) (.int .i64 v.op) (.slice v.ai v.ni v.ci) (.slice v.ap v.np v.cp) w3 := ⟨x0, y0, f0, f1, f2⟩
      have d1 : Below w3.heap.size w3 (w3.alloc (.cells #[] 3)).drew := ((Below.refl _ _).alloc (Nat.le_refl _) _).drew
      have d2 : Below w3.heap.size w3 ((w3.alloc (.cells #[] 3)).alloc (.cells #[] 3)).drew := (alloc_low ((Below.refl _ _).alloc (Nat.le_refl _) _) _).drew
      obtain ⟨⟨g1, g2, g3, g4⟩, ⟨g5, g6, g7⟩, hkg⟩ := ks_round hks HV.out hv (by omega) hni hnp ((w3.alloc (.cells #[] 3)).drew) w3.heap.size d1 (((apW Tryd.prog #[22, 22] 22 (w3.alloc (.cells #[] 3)).drew (.slice (some ⟨w3.heap.size, 0, none⟩) 0 0) (.slice v.ai v.ni v.ci)).alloc (.cells #[] 3))) (apW Tryd.prog #[22, 22] 22 (w3.alloc (.cells #[] 3)).drew (.slice (some ⟨w3.heap.size, 0, none⟩) 0 0) (.slice v.ai v.ni v.ci)).heap.size ((Below.refl _ _).alloc (Nat.le_refl _) _)
      obtain ⟨⟨a1, a2, a3, a4⟩, ⟨a5, a6, a7⟩, hka⟩ := ks_round hks HV.out hv (by omega) hni hnp (((w3.alloc (.cells #[] 3)).alloc (.cells #[] 3)).drew) w3.heap.size d2 ((apW Tryd.prog #[22, 22] 22 ((w3.alloc (.cells #[] 3)).alloc (.cells #[] 3)).drew (.slice (some ⟨w3.heap.size, 0, none⟩) 0 0) (.slice v.ai v.ni v.ci))) (w3.heap.size + 1) (Below.refl _ _)
      obtain ⟨⟨b1, b2, b3, b4⟩, ⟨b5, b6, b7⟩, hkb⟩ := ks_round hks HV.out hv (by omega) hni hnp (((w3.alloc (.cells #[] 3)).alloc (.cells #[] 3)).drew) (w3.heap.size + 1) d2 ((apW Tryd.prog #[22, 22] 22 ((w3.alloc (.cells #[] 3)).alloc (.cells #[] 3)).drew (.slice (some ⟨(w3.heap.size + 1), 0, none⟩) 0 0) (.slice v.ai v.ni v.ci))) w3.heap.size (Below.refl _ _)
      have HR := hid (And.intro hkg (And.intro hka hkb))
      clear hks hvi hvp x0 x1 y0 f0 f1 f2 hkg hka hkb d1 d2
      go_wp2
      refine wp_region_late (S := (fun w' => (w'.cell? ⟨w.heap.size, 0, none⟩ = some (.slice (some ⟨b, off, none⟩) n c) ∧ w'.cell? ⟨w2.heap.size, 0, none⟩ = some (.slice aP i cP) ∧ w'.cell? ⟨b, off + i * 3, none⟩ = some (.int .i64 v.op) ∧ w'.cell? ⟨b, off + i * 3 + 1, none⟩ = some (.slice v.ai v.ni v.ci) ∧ w'.cell? ⟨b, off + i * 3 + 2, none⟩ = some (.slice v.ap v.np v.cp)))) 28 (by kernel_rfl) ?_ (fun hHeld => ?_)
      · repeat (first | with_reducible assumption | with_reducible refine s5_drew ?_ | with_reducible refine s5_alloc ?_)
      refine late_take (i := 0) (oi := { dst := some 33, op := Op.fieldAddr 36 (Operand.tmp 5) 0, type := 0, pos := "law.go:110", after := #[], guard := none }) (v := ?_) rfl (by kernel_rfl) (by kernel_rfl) (by kernel_rfl) (by kernel_rfl) (fun _ _ _ h => h) (Or.inl ⟨by rfl, ?hy⟩) (by assumption) ?_
      case hy => (intro w hSw; (try dsimp only at hSw); go_simp; first | done | with_reducible rfl)
      try simp only [Act.put, List.setIfInBounds_toArray, List.set_cons_zero, List.set_cons_succ]
      refine late_take (i := 1) (oi := { dst := some 34, op := Op.load 34 (Operand.tmp 33), type := 34, pos := "law.go:110", after := #[{ on := 0, ground := Ground.data }], guard := none }) (v := ?_) rfl (by kernel_rfl) (by kernel_rfl) (by kernel_rfl) (by kernel_rfl) (fun _ _ _ h => h) (Or.inl ⟨by rfl, ?hy⟩) (by assumption) ?_
      case hy => (intro w hSw; (try dsimp only at hSw); go_simp; first | done | with_reducible rfl)
      try simp only [Act.put, List.setIfInBounds_toArray, List.set_cons_zero, List.set_cons_succ]
      refine late_take (i := 2) (oi := { dst := some 35, op := Op.fieldAddr 36 (Operand.tmp 2) 0, type := 0, pos := "law.go:110", after := #[], guard := none }) (v := ?_) rfl (by kernel_rfl) (by kernel_rfl) (by kernel_rfl) (by kernel_rfl) (fun _ _ _ h => h) (Or.inl ⟨by rfl, ?hy⟩) (by assumption) ?_
      case hy => (intro w hSw; (try dsimp only at hSw); go_simp; first | done | with_reducible rfl)
      try simp only [Act.put, List.setIfInBounds_toArray, List.set_cons_zero, List.set_cons_succ]
      refine late_take (i := 3) (oi := { dst := some 36, op := Op.load 34 (Operand.tmp 35), type := 34, pos := "law.go:110", after := #[{ on := 2, ground := Ground.data }], guard := none }) (v := ?_) rfl (by kernel_rfl) (by kernel_rfl) (by kernel_rfl) (by kernel_rfl) (fun _ _ _ h => h) (Or.inl ⟨by rfl, ?hy⟩) (by assumption) ?_
      case hy => (intro w hSw; (try dsimp only at hSw); go_simp; first | done | with_reducible rfl)
      try simp only [Act.put, List.setIfInBounds_toArray, List.set_cons_zero, List.set_cons_succ]
      refine late_take (i := 4) (oi := { dst := some 37, op := Op.move (Operand.tmp 6), type := 3, pos := "law.go:110", after := #[], guard := none }) (v := ?_) rfl (by kernel_rfl) (by kernel_rfl) (by kernel_rfl) (by kernel_rfl) (fun _ _ _ h => h) (Or.inl ⟨by rfl, ?hy⟩) (by assumption) ?_
      case hy => (intro w hSw; (try dsimp only at hSw); go_simp; first | done | with_reducible rfl)
      try simp only [Act.put, List.setIfInBounds_toArray, List.set_cons_zero, List.set_cons_succ]
      refine late_take (i := 5) (oi := { dst := some 38, op := Op.indexAddr 34 (Operand.tmp 36) (Operand.tmp 37), type := 0, pos := "law.go:110", after := #[{ on := 3, ground := Ground.data }, { on := 4, ground := Ground.data }], guard := none }) (v := ?_) rfl (by kernel_rfl) (by kernel_rfl) (by kernel_rfl) (by kernel_rfl) (fun _ _ _ h => h) (Or.inl ⟨by rfl, ?hy⟩) (by assumption) ?_
      case hy => (intro w hSw; (try dsimp only at hSw); go_simp; first | done | with_reducible rfl)
      try simp only [Act.put, List.setIfInBounds_toArray, List.set_cons_zero, List.set_cons_succ]
      refine late_take (i := 6) (oi := { dst := some 39, op := Op.fieldAddr 24 (Operand.tmp 38) 0, type := 0, pos := "law.go:110", after := #[{ on := 5, ground := Ground.data }], guard := none }) (v := ?_) rfl (by kernel_rfl) (by kernel_rfl) (by kernel_rfl) (by kernel_rfl) (fun _ _ _ h => h) (Or.inl ⟨by rfl, ?hy⟩) (by assumption) ?_
      case hy => (intro w hSw; (try dsimp only at hSw); go_simp; first | done | with_reducible rfl)
      try simp only [Act.put, List.setIfInBounds_toArray, List.set_cons_zero, List.set_cons_succ]
      refine late_take (i := 7) (oi := { dst := some 40, op := Op.load 3 (Operand.tmp 39), type := 3, pos := "law.go:110", after := #[{ on := 6, ground := Ground.data }], guard := none }) (v := ?_) rfl (by kernel_rfl) (by kernel_rfl) (by kernel_rfl) (by kernel_rfl) (fun _ _ _ h => h) (Or.inl ⟨by rfl, ?hy⟩) (by assumption) ?_
      case hy => (intro w hSw; (try dsimp only at hSw); go_simp; first | done | with_reducible rfl)
      try simp only [Act.put, List.setIfInBounds_toArray, List.set_cons_zero, List.set_cons_succ]
      refine late_take (i := 9) (oi := { dst := some 42, op := Op.fieldAddr 36 (Operand.tmp 2) 0, type := 0, pos := "law.go:110", after := #[], guard := none }) (v := ?_) rfl (by kernel_rfl) (by kernel_rfl) (by kernel_rfl) (by kernel_rfl) (fun _ _ _ h => h) (Or.inl ⟨by rfl, ?hy⟩) (by assumption) ?_
      case hy => (intro w hSw; (try dsimp only at hSw); go_simp; first | done | with_reducible rfl)
      try simp only [Act.put, List.setIfInBounds_toArray, List.set_cons_zero, List.set_cons_succ]
      refine late_take (i := 10) (oi := { dst := some 43, op := Op.load 34 (Operand.tmp 42), type := 34, pos := "law.go:110", after := #[{ on := 9, ground := Ground.data }], guard := none }) (v := ?_) rfl (by kernel_rfl) (by kernel_rfl) (by kernel_rfl) (by kernel_rfl) (fun _ _ _ h => h) (Or.inl ⟨by rfl, ?hy⟩) (by assumption) ?_
      case hy => (intro w hSw; (try dsimp only at hSw); go_simp; first | done | with_reducible rfl)
      try simp only [Act.put, List.setIfInBounds_toArray, List.set_cons_zero, List.set_cons_succ]
      refine late_take (i := 11) (oi := { dst := some 44, op := Op.move (Operand.tmp 6), type := 3, pos := "law.go:110", after := #[], guard := none }) (v := ?_) rfl (by kernel_rfl) (by kernel_rfl) (by kernel_rfl) (by kernel_rfl) (fun _ _ _ h => h) (Or.inl ⟨by rfl, ?hy⟩) (by assumption) ?_
      case hy => (intro w hSw; (try dsimp only at hSw); go_simp; first | done | with_reducible rfl)
      try simp only [Act.put, List.setIfInBounds_toArray, List.set_cons_zero, List.set_cons_succ]
      refine late_take (i := 12) (oi := { dst := some 45, op := Op.indexAddr 34 (Operand.tmp 43) (Operand.tmp 44), type := 0, pos := "law.go:110", after := #[{ on := 10, ground := Ground.data }, { on := 11, ground := Ground.data }], guard := none }) (v := ?_) rfl (by kernel_rfl) (by kernel_rfl) (by kernel_rfl) (by kernel_rfl) (fun _ _ _ h => h) (Or.inl ⟨by rfl, ?hy⟩) (by assumption) ?_
      case hy => (intro w hSw; (try dsimp only at hSw); go_simp; first | done | with_reducible rfl)
      try simp only [Act.put, List.setIfInBounds_toArray, List.set_cons_zero, List.set_cons_succ]
      refine late_take (i := 13) (oi := { dst := some 46, op := Op.fieldAddr 24 (Operand.tmp 45) 1, type := 0, pos := "law.go:110", after := #[{ on := 12, ground := Ground.data }], guard := none }) (v := ?_) rfl (by kernel_rfl) (by kernel_rfl) (by kernel_rfl) (by kernel_rfl) (fun _ _ _ h => h) (Or.inl ⟨by rfl, ?hy⟩) (by assumption) ?_
      case hy => (intro w hSw; (try dsimp only at hSw); go_simp; first | done | with_reducible rfl)
      try simp only [Act.put, List.setIfInBounds_toArray, List.set_cons_zero, List.set_cons_succ]
      refine late_take (i := 14) (oi := { dst := some 47, op := Op.load 22 (Operand.tmp 46), type := 22, pos := "law.go:110", after := #[{ on := 13, ground := Ground.data }], guard := none }) (v := ?_) rfl (by kernel_rfl) (by kernel_rfl) (by kernel_rfl) (by kernel_rfl) (fun _ _ _ h => h) (Or.inl ⟨by rfl, ?hy⟩) (by assumption) ?_
      case hy => (intro w hSw; (try dsimp only at hSw); go_simp; first | done | with_reducible rfl)
      try simp only [Act.put, List.setIfInBounds_toArray, List.set_cons_zero, List.set_cons_succ]
      refine late_take (i := 17) (oi := { dst := some 50, op := Op.fieldAddr 36 (Operand.tmp 2) 0, type := 0, pos := "law.go:110", after := #[], guard := none }) (v := ?_) rfl (by kernel_rfl) (by kernel_rfl) (by kernel_rfl) (by kernel_rfl) (fun _ _ _ h => h) (Or.inl ⟨by rfl, ?hy⟩) (by assumption) ?_
      case hy => (intro w hSw; (try dsimp only at hSw); go_simp; first | done | with_reducible rfl)
      try simp only [Act.put, List.setIfInBounds_toArray, List.set_cons_zero, List.set_cons_succ]
      refine late_take (i := 18) (oi := { dst := some 51, op := Op.load 34 (Operand.tmp 50), type := 34, pos := "law.go:110", after := #[{ on := 17, ground := Ground.data }], guard := none }) (v := ?_) rfl (by kernel_rfl) (by kernel_rfl) (by kernel_rfl) (by kernel_rfl) (fun _ _ _ h => h) (Or.inl ⟨by rfl, ?hy⟩) (by assumption) ?_
      case hy => (intro w hSw; (try dsimp only at hSw); go_simp; first | done | with_reducible rfl)
      try simp only [Act.put, List.setIfInBounds_toArray, List.set_cons_zero, List.set_cons_succ]
      refine late_take (i := 19) (oi := { dst := some 52, op := Op.move (Operand.tmp 6), type := 3, pos := "law.go:110", after := #[], guard := none }) (v := ?_) rfl (by kernel_rfl) (by kernel_rfl) (by kernel_rfl) (by kernel_rfl) (fun _ _ _ h => h) (Or.inl ⟨by rfl, ?hy⟩) (by assumption) ?_
      case hy => (intro w hSw; (try dsimp only at hSw); go_simp; first | done | with_reducible rfl)
      try simp only [Act.put, List.setIfInBounds_toArray, List.set_cons_zero, List.set_cons_succ]
      refine late_take (i := 20) (oi := { dst := some 53, op := Op.indexAddr 34 (Operand.tmp 51) (Operand.tmp 52), type := 0, pos := "law.go:110", after := #[{ on := 18, ground := Ground.data }, { on := 19, ground := Ground.data }], guard := none }) (v := ?_) rfl (by kernel_rfl) (by kernel_rfl) (by kernel_rfl) (by kernel_rfl) (fun _ _ _ h => h) (Or.inl ⟨by rfl, ?hy⟩) (by assumption) ?_
      case hy => (intro w hSw; (try dsimp only at hSw); go_simp; first | done | with_reducible rfl)
      try simp only [Act.put, List.setIfInBounds_toArray, List.set_cons_zero, List.set_cons_succ]
      refine late_take (i := 21) (oi := { dst := some 54, op := Op.fieldAddr 24 (Operand.tmp 53) 2, type := 0, pos := "law.go:110", after := #[{ on := 20, ground := Ground.data }], guard := none }) (v := ?_) rfl (by kernel_rfl) (by kernel_rfl) (by kernel_rfl) (by kernel_rfl) (fun _ _ _ h => h) (Or.inl ⟨by rfl, ?hy⟩) (by assumption) ?_
      case hy => (intro w hSw; (try dsimp only at hSw); go_simp; first | done | with_reducible rfl)
      try simp only [Act.put, List.setIfInBounds_toArray, List.set_cons_zero, List.set_cons_succ]
      refine late_take (i := 22) (oi := { dst := some 55, op := Op.load 22 (Operand.tmp 54), type := 22, pos := "law.go:110", after := #[{ on := 21, ground := Ground.data }], guard := none }) (v := ?_) rfl (by kernel_rfl) (by kernel_rfl) (by kernel_rfl) (by kernel_rfl) (fun _ _ _ h => h) (Or.inl ⟨by rfl, ?hy⟩) (by assumption) ?_
      case hy => (intro w hSw; (try dsimp only at hSw); go_simp; first | done | with_reducible rfl)
      try simp only [Act.put, List.setIfInBounds_toArray, List.set_cons_zero, List.set_cons_succ]
      refine late_ready (rs := [8, 16]) (by kernel_rfl) (by simp) ?_
      refine lates_cons (o := { dst := some 41, op := Op.buildSlice 22 0 #[], type := 22, pos := "law.go:110", after := #[], guard := none }) rfl (fun K hK => ?_) (lates_cons (o := { dst := some 49, op := Op.buildSlice 22 0 #[], type := 22, pos := "law.go:110", after := #[], guard := none }) rfl (fun K hK => ?_) (lates_nil))
      · go_simp
        refine hK.out _ _ ?_ (fun hHeld => ?_)
        · repeat (first | with_reducible assumption | with_reducible refine s5_drew ?_ | with_reducible refine s5_alloc ?_)
        clear hK K
        try simp only [Act.put, List.setIfInBounds_toArray, List.set_cons_zero, List.set_cons_succ]
        refine late_ready (rs := [15, 16]) (by kernel_rfl) (by simp) ?_
        refine lates_cons (o := { dst := some 48, op := Op.call { callee := Callee.builtin Builtin.append, args := #[Operand.tmp 41, Operand.tmp 47], argTypes := #[22, 22] }, type := 22, pos := "law.go:110", after := #[{ on := 8, ground := Ground.data }, { on := 14, ground := Ground.data }], guard := none }) rfl (fun K hK => ?_) (lates_cons (o := { dst := some 49, op := Op.buildSlice 22 0 #[], type := 22, pos := "law.go:110", after := #[], guard := none }) rfl (fun K hK => ?_) (lates_nil))
        · go_simp
          refine hK.out _ _ ?_ (fun hHeld => ?_)
          · repeat (first | with_reducible assumption | with_reducible refine s5_drew ?_ | with_reducible refine s5_alloc ?_)
          clear hK K
          try simp only [Act.put, List.setIfInBounds_toArray, List.set_cons_zero, List.set_cons_succ]
          refine late_ready (rs := [16]) (by kernel_rfl) (by simp) ?_
          refine lates_cons (o := { dst := some 49, op := Op.buildSlice 22 0 #[], type := 22, pos := "law.go:110", after := #[], guard := none }) rfl (fun K hK => ?_) (lates_nil)
          go_simp
          refine hK.out _ _ ?_ (fun hHeld => ?_)
          · repeat (first | with_reducible assumption | with_reducible refine s5_drew ?_ | with_reducible refine s5_alloc ?_)
          clear hK K
          try simp only [Act.put, List.setIfInBounds_toArray, List.set_cons_zero, List.set_cons_succ]
          refine late_ready (rs := [23]) (by kernel_rfl) (by simp) ?_
          refine lates_cons (o := { dst := some 56, op := Op.call { callee := Callee.builtin Builtin.append, args := #[Operand.tmp 49, Operand.tmp 55], argTypes := #[22, 22] }, type := 22, pos := "law.go:110", after := #[{ on := 16, ground := Ground.data }, { on := 22, ground := Ground.data }, { on := 15, ground := Ground.chain }], guard := none }) rfl (fun K hK => ?_) (lates_nil)
          go_simp
          refine hK.out _ _ ?_ (fun hHeld => ?_)
          · repeat (first | with_reducible assumption | with_reducible refine s5_drew ?_ | with_reducible refine s5_alloc ?_)
          clear hK K
          try simp only [Act.put, List.setIfInBounds_toArray, List.set_cons_zero, List.set_cons_succ]
          refine late_take (i := 24) (oi := { dst := some 57, op := Op.build 24 #[(0, Operand.tmp 40), (1, Operand.tmp 48), (2, Operand.tmp 56)], type := 24, pos := "law.go:110", after := #[{ on := 7, ground := Ground.data }, { on := 15, ground := Ground.data }, { on := 23, ground := Ground.data }], guard := none }) (v := ?_) rfl (by kernel_rfl) (by kernel_rfl) (by kernel_rfl) (by kernel_rfl) (fun _ _ _ h => h) (Or.inl ⟨by rfl, ?hy⟩) (by assumption) ?_
          case hy => (intro w hSw; (try dsimp only at hSw); go_simp; first | done | with_reducible rfl)
          try simp only [Act.put, List.setIfInBounds_toArray, List.set_cons_zero, List.set_cons_succ]
          refine late_ready (rs := [25]) (by kernel_rfl) (by simp) ?_
          refine lates_cons (o := { dst := some 58, op := Op.buildSlice 34 1 #[(0, Operand.tmp 57)], type := 34, pos := "law.go:110", after := #[{ on := 24, ground := Ground.data }], guard := none }) rfl (fun K hK => ?_) (lates_nil)
          go_simp
          refine hK.out _ _ ?_ (fun hHeld => ?_)
          · repeat (first | with_reducible assumption | with_reducible refine s5_drew ?_ | with_reducible refine s5_alloc ?_)
          clear hK K
          try simp only [Act.put, List.setIfInBounds_toArray, List.set_cons_zero, List.set_cons_succ]
          refine late_ready (rs := [26]) (by kernel_rfl) (by simp) ?_
          refine lates_cons (o := { dst := some 59, op := Op.call { callee := Callee.builtin Builtin.append, args := #[Operand.tmp 34, Operand.tmp 58], argTypes := #[34, 34] }, type := 34, pos := "law.go:110", after := #[{ on := 1, ground := Ground.data }, { on := 25, ground := Ground.data }, { on := 23, ground := Ground.chain }], guard := none }) rfl (fun K hK => ?_) (lates_nil)
          go_simp
          refine hK.out _ _ ?_ (fun hHeld => ?_)
          · repeat (first | with_reducible assumption | with_reducible refine s5_drew ?_ | with_reducible refine s5_alloc ?_)
          clear hK K
          try simp only [Act.put, List.setIfInBounds_toArray, List.set_cons_zero, List.set_cons_succ]
          refine late_take (i := 27) (oi := { dst := some 60, op := Op.fieldAddr 36 (Operand.tmp 5) 0, type := 0, pos := "law.go:110", after := #[{ on := 0, ground := Ground.phase }, { on := 1, ground := Ground.phase }, { on := 2, ground := Ground.phase }, { on := 3, ground := Ground.phase }, { on := 4, ground := Ground.phase }, { on := 5, ground := Ground.phase }, { on := 6, ground := Ground.phase }, { on := 7, ground := Ground.phase }, { on := 8, ground := Ground.phase }, { on := 9, ground := Ground.phase }, { on := 10, ground := Ground.phase }, { on := 11, ground := Ground.phase }, { on := 12, ground := Ground.phase }, { on := 13, ground := Ground.phase }, { on := 14, ground := Ground.phase }, { on := 15, ground := Ground.phase }, { on := 16, ground := Ground.phase }, { on := 17, ground := Ground.phase }, { on := 18, ground := Ground.phase }, { on := 19, ground := Ground.phase }, { on := 20, ground := Ground.phase }, { on := 21, ground := Ground.phase }, { on := 22, ground := Ground.phase }, { on := 23, ground := Ground.phase }, { on := 24, ground := Ground.phase }, { on := 25, ground := Ground.phase }, { on := 26, ground := Ground.phase }], guard := none }) (v := ?_) rfl (by kernel_rfl) (by kernel_rfl) (by kernel_rfl) (by kernel_rfl) (fun _ _ _ h => h) (Or.inl ⟨by rfl, ?hy⟩) (by assumption) ?_
          case hy => (intro w hSw; (try dsimp only at hSw); go_simp; first | done | with_reducible rfl)
          try simp only [Act.put, List.setIfInBounds_toArray, List.set_cons_zero, List.set_cons_succ]
          refine late_ready (rs := [28]) (by kernel_rfl) (by simp) ?_
          refine lates_last (o := { dst := none, op := Op.store 34 (Operand.tmp 60) (Operand.tmp 59), type := 0, pos := "law.go:110", after := #[{ on := 27, ground := Ground.data }, { on := 26, ground := Ground.data }, { on := 26, ground := Ground.chain }, { on := 0, ground := Ground.phase }, { on := 1, ground := Ground.phase }, { on := 2, ground := Ground.phase }, { on := 3, ground := Ground.phase }, { on := 4, ground := Ground.phase }, { on := 5, ground := Ground.phase }, { on := 6, ground := Ground.phase }, { on := 7, ground := Ground.phase }, { on := 8, ground := Ground.phase }, { on := 9, ground := Ground.phase }, { on := 10, ground := Ground.phase }, { on := 11, ground := Ground.phase }, { on := 12, ground := Ground.phase }, { on := 13, ground := Ground.phase }, { on := 14, ground := Ground.phase }, { on := 15, ground := Ground.phase }, { on := 16, ground := Ground.phase }, { on := 17, ground := Ground.phase }, { on := 18, ground := Ground.phase }, { on := 19, ground := Ground.phase }, { on := 20, ground := Ground.phase }, { on := 21, ground := Ground.phase }, { on := 22, ground := Ground.phase }, { on := 23, ground := Ground.phase }, { on := 24, ground := Ground.phase }, { on := 25, ground := Ground.phase }, { on := 26, ground := Ground.phase }], guard := none }) rfl (fun K hK => ?_)
          go_simp
          refine hK.out _ _ ?_
          clear hK K
          try simp only [Act.put, List.setIfInBounds_toArray, List.set_cons_zero, List.set_cons_succ]
          refine late_done (by kernel_rfl) ?_ _
          clear g1 g2 g3 g4 g5 g6 g7 a1 a2 a3 a4 a5 a6 a7 b1 b2 b3 b4 b5 b6 b7 hHeld
          obtain ⟨p2, q2, M', hk'⟩ := HR.out.1
          clear HR
          go_wp2
          go_roundg (n - (i + 1))
          case measure => omega
          case rel => exact ⟨_, i + 1, rfl, by omega, rfl, rfl, _, _, p2, q2, M', hk'⟩
        · go_simp
          refine hK.out _ _ ?_ (fun hHeld => ?_)
          · repeat (first | with_reducible assumption | with_reducible refine s5_drew ?_ | with_reducible refine s5_alloc ?_)
          clear hK K
          try simp only [Act.put, List.setIfInBounds_toArray, List.set_cons_zero, List.set_cons_succ]
          refine late_ready (rs := [15]) (by kernel_rfl) (by simp) ?_
          refine lates_cons (o := { dst := some 48, op := Op.call { callee := Callee.builtin Builtin.append, args := #[Operand.tmp 41, Operand.tmp 47], argTypes := #[22, 22] }, type := 22, pos := "law.go:110", after := #[{ on := 8, ground := Ground.data }, { on := 14, ground := Ground.data }], guard := none }) rfl (fun K hK => ?_) (lates_nil)
          go_simp
          refine hK.out _ _ ?_ (fun hHeld => ?_)
          · repeat (first | with_reducible assumption | with_reducible refine s5_drew ?_ | with_reducible refine s5_alloc ?_)
          clear hK K
          try simp only [Act.put, List.setIfInBounds_toArray, List.set_cons_zero, List.set_cons_succ]
          refine late_ready (rs := [23]) (by kernel_rfl) (by simp) ?_
          refine lates_cons (o := { dst := some 56, op := Op.call { callee := Callee.builtin Builtin.append, args := #[Operand.tmp 49, Operand.tmp 55], argTypes := #[22, 22] }, type := 22, pos := "law.go:110", after := #[{ on := 16, ground := Ground.data }, { on := 22, ground := Ground.data }, { on := 15, ground := Ground.chain }], guard := none }) rfl (fun K hK => ?_) (lates_nil)
          go_simp
          refine hK.out _ _ ?_ (fun hHeld => ?_)
          · repeat (first | with_reducible assumption | with_reducible refine s5_drew ?_ | with_reducible refine s5_alloc ?_)
          clear hK K
          try simp only [Act.put, List.setIfInBounds_toArray, List.set_cons_zero, List.set_cons_succ]
          refine late_take (i := 24) (oi := { dst := some 57, op := Op.build 24 #[(0, Operand.tmp 40), (1, Operand.tmp 48), (2, Operand.tmp 56)], type := 24, pos := "law.go:110", after := #[{ on := 7, ground := Ground.data }, { on := 15, ground := Ground.data }, { on := 23, ground := Ground.data }], guard := none }) (v := ?_) rfl (by kernel_rfl) (by kernel_rfl) (by kernel_rfl) (by kernel_rfl) (fun _ _ _ h => h) (Or.inl ⟨by rfl, ?hy⟩) (by assumption) ?_
          case hy => (intro w hSw; (try dsimp only at hSw); go_simp; first | done | with_reducible rfl)
          try simp only [Act.put, List.setIfInBounds_toArray, List.set_cons_zero, List.set_cons_succ]
          refine late_ready (rs := [25]) (by kernel_rfl) (by simp) ?_
          refine lates_cons (o := { dst := some 58, op := Op.buildSlice 34 1 #[(0, Operand.tmp 57)], type := 34, pos := "law.go:110", after := #[{ on := 24, ground := Ground.data }], guard := none }) rfl (fun K hK => ?_) (lates_nil)
          go_simp
          refine hK.out _ _ ?_ (fun hHeld => ?_)
          · repeat (first | with_reducible assumption | with_reducible refine s5_drew ?_ | with_reducible refine s5_alloc ?_)
          clear hK K
          try simp only [Act.put, List.setIfInBounds_toArray, List.set_cons_zero, List.set_cons_succ]
          refine late_ready (rs := [26]) (by kernel_rfl) (by simp) ?_
          refine lates_cons (o := { dst := some 59, op := Op.call { callee := Callee.builtin Builtin.append, args := #[Operand.tmp 34, Operand.tmp 58], argTypes := #[34, 34] }, type := 34, pos := "law.go:110", after := #[{ on := 1, ground := Ground.data }, { on := 25, ground := Ground.data }, { on := 23, ground := Ground.chain }], guard := none }) rfl (fun K hK => ?_) (lates_nil)
          go_simp
          refine hK.out _ _ ?_ (fun hHeld => ?_)
          · repeat (first | with_reducible assumption | with_reducible refine s5_drew ?_ | with_reducible refine s5_alloc ?_)
          clear hK K
          try simp only [Act.put, List.setIfInBounds_toArray, List.set_cons_zero, List.set_cons_succ]
          refine late_take (i := 27) (oi := { dst := some 60, op := Op.fieldAddr 36 (Operand.tmp 5) 0, type := 0, pos := "law.go:110", after := #[{ on := 0, ground := Ground.phase }, { on := 1, ground := Ground.phase }, { on := 2, ground := Ground.phase }, { on := 3, ground := Ground.phase }, { on := 4, ground := Ground.phase }, { on := 5, ground := Ground.phase }, { on := 6, ground := Ground.phase }, { on := 7, ground := Ground.phase }, { on := 8, ground := Ground.phase }, { on := 9, ground := Ground.phase }, { on := 10, ground := Ground.phase }, { on := 11, ground := Ground.phase }, { on := 12, ground := Ground.phase }, { on := 13, ground := Ground.phase }, { on := 14, ground := Ground.phase }, { on := 15, ground := Ground.phase }, { on := 16, ground := Ground.phase }, { on := 17, ground := Ground.phase }, { on := 18, ground := Ground.phase }, { on := 19, ground := Ground.phase }, { on := 20, ground := Ground.phase }, { on := 21, ground := Ground.phase }, { on := 22, ground := Ground.phase }, { on := 23, ground := Ground.phase }, { on := 24, ground := Ground.phase }, { on := 25, ground := Ground.phase }, { on := 26, ground := Ground.phase }], guard := none }) (v := ?_) rfl (by kernel_rfl) (by kernel_rfl) (by kernel_rfl) (by kernel_rfl) (fun _ _ _ h => h) (Or.inl ⟨by rfl, ?hy⟩) (by assumption) ?_
          case hy => (intro w hSw; (try dsimp only at hSw); go_simp; first | done | with_reducible rfl)
          try simp only [Act.put, List.setIfInBounds_toArray, List.set_cons_zero, List.set_cons_succ]
          refine late_ready (rs := [28]) (by kernel_rfl) (by simp) ?_
          refine lates_last (o := { dst := none, op := Op.store 34 (Operand.tmp 60) (Operand.tmp 59), type := 0, pos := "law.go:110", after := #[{ on := 27, ground := Ground.data }, { on := 26, ground := Ground.data }, { on := 26, ground := Ground.chain }, { on := 0, ground := Ground.phase }, { on := 1, ground := Ground.phase }, { on := 2, ground := Ground.phase }, { on := 3, ground := Ground.phase }, { on := 4, ground := Ground.phase }, { on := 5, ground := Ground.phase }, { on := 6, ground := Ground.phase }, { on := 7, ground := Ground.phase }, { on := 8, ground := Ground.phase }, { on := 9, ground := Ground.phase }, { on := 10, ground := Ground.phase }, { on := 11, ground := Ground.phase }, { on := 12, ground := Ground.phase }, { on := 13, ground := Ground.phase }, { on := 14, ground := Ground.phase }, { on := 15, ground := Ground.phase }, { on := 16, ground := Ground.phase }, { on := 17, ground := Ground.phase }, { on := 18, ground := Ground.phase }, { on := 19, ground := Ground.phase }, { on := 20, ground := Ground.phase }, { on := 21, ground := Ground.phase }, { on := 22, ground := Ground.phase }, { on := 23, ground := Ground.phase }, { on := 24, ground := Ground.phase }, { on := 25, ground := Ground.phase }, { on := 26, ground := Ground.phase }], guard := none }) rfl (fun K hK => ?_)
          go_simp
          refine hK.out _ _ ?_
          clear hK K
          try simp only [Act.put, List.setIfInBounds_toArray, List.set_cons_zero, List.set_cons_succ]
          refine late_done (by kernel_rfl) ?_ _
          clear g1 g2 g3 g4 g5 g6 g7 a1 a2 a3 a4 a5 a6 a7 b1 b2 b3 b4 b5 b6 b7 hHeld
          obtain ⟨p2, q2, M', hk'⟩ := HR.out.2.1
          clear HR
          go_wp2
          go_roundg (n - (i + 1))
          case measure => omega
          case rel => exact ⟨_, i + 1, rfl, by omega, rfl, rfl, _, _, p2, q2, M', hk'⟩
      · go_simp
        refine hK.out _ _ ?_ (fun hHeld => ?_)
        · repeat (first | with_reducible assumption | with_reducible refine s5_drew ?_ | with_reducible refine s5_alloc ?_)
        clear hK K
        try simp only [Act.put, List.setIfInBounds_toArray, List.set_cons_zero, List.set_cons_succ]
        refine late_ready (rs := [8]) (by kernel_rfl) (by simp) ?_
        refine lates_cons (o := { dst := some 41, op := Op.buildSlice 22 0 #[], type := 22, pos := "law.go:110", after := #[], guard := none }) rfl (fun K hK => ?_) (lates_nil)
        go_simp
        refine hK.out _ _ ?_ (fun hHeld => ?_)
        · repeat (first | with_reducible assumption | with_reducible refine s5_drew ?_ | with_reducible refine s5_alloc ?_)
        clear hK K
        try simp only [Act.put, List.setIfInBounds_toArray, List.set_cons_zero, List.set_cons_succ]
        refine late_ready (rs := [15]) (by kernel_rfl) (by simp) ?_
        refine lates_cons (o := { dst := some 48, op := Op.call { callee := Callee.builtin Builtin.append, args := #[Operand.tmp 41, Operand.tmp 47], argTypes := #[22, 22] }, type := 22, pos := "law.go:110", after := #[{ on := 8, ground := Ground.data }, { on := 14, ground := Ground.data }], guard := none }) rfl (fun K hK => ?_) (lates_nil)
        go_simp
        refine hK.out _ _ ?_ (fun hHeld => ?_)
        · repeat (first | with_reducible assumption | with_reducible refine s5_drew ?_ | with_reducible refine s5_alloc ?_)
        clear hK K
        try simp only [Act.put, List.setIfInBounds_toArray, List.set_cons_zero, List.set_cons_succ]
        refine late_ready (rs := [23]) (by kernel_rfl) (by simp) ?_
        refine lates_cons (o := { dst := some 56, op := Op.call { callee := Callee.builtin Builtin.append, args := #[Operand.tmp 49, Operand.tmp 55], argTypes := #[22, 22] }, type := 22, pos := "law.go:110", after := #[{ on := 16, ground := Ground.data }, { on := 22, ground := Ground.data }, { on := 15, ground := Ground.chain }], guard := none }) rfl (fun K hK => ?_) (lates_nil)
        go_simp
        refine hK.out _ _ ?_ (fun hHeld => ?_)
        · repeat (first | with_reducible assumption | with_reducible refine s5_drew ?_ | with_reducible refine s5_alloc ?_)
        clear hK K
        try simp only [Act.put, List.setIfInBounds_toArray, List.set_cons_zero, List.set_cons_succ]
        refine late_take (i := 24) (oi := { dst := some 57, op := Op.build 24 #[(0, Operand.tmp 40), (1, Operand.tmp 48), (2, Operand.tmp 56)], type := 24, pos := "law.go:110", after := #[{ on := 7, ground := Ground.data }, { on := 15, ground := Ground.data }, { on := 23, ground := Ground.data }], guard := none }) (v := ?_) rfl (by kernel_rfl) (by kernel_rfl) (by kernel_rfl) (by kernel_rfl) (fun _ _ _ h => h) (Or.inl ⟨by rfl, ?hy⟩) (by assumption) ?_
        case hy => (intro w hSw; (try dsimp only at hSw); go_simp; first | done | with_reducible rfl)
        try simp only [Act.put, List.setIfInBounds_toArray, List.set_cons_zero, List.set_cons_succ]
        refine late_ready (rs := [25]) (by kernel_rfl) (by simp) ?_
        refine lates_cons (o := { dst := some 58, op := Op.buildSlice 34 1 #[(0, Operand.tmp 57)], type := 34, pos := "law.go:110", after := #[{ on := 24, ground := Ground.data }], guard := none }) rfl (fun K hK => ?_) (lates_nil)
        go_simp
        refine hK.out _ _ ?_ (fun hHeld => ?_)
        · repeat (first | with_reducible assumption | with_reducible refine s5_drew ?_ | with_reducible refine s5_alloc ?_)
        clear hK K
        try simp only [Act.put, List.setIfInBounds_toArray, List.set_cons_zero, List.set_cons_succ]
        refine late_ready (rs := [26]) (by kernel_rfl) (by simp) ?_
        refine lates_cons (o := { dst := some 59, op := Op.call { callee := Callee.builtin Builtin.append, args := #[Operand.tmp 34, Operand.tmp 58], argTypes := #[34, 34] }, type := 34, pos := "law.go:110", after := #[{ on := 1, ground := Ground.data }, { on := 25, ground := Ground.data }, { on := 23, ground := Ground.chain }], guard := none }) rfl (fun K hK => ?_) (lates_nil)
        go_simp
        refine hK.out _ _ ?_ (fun hHeld => ?_)
        · repeat (first | with_reducible assumption | with_reducible refine s5_drew ?_ | with_reducible refine s5_alloc ?_)
        clear hK K
        try simp only [Act.put, List.setIfInBounds_toArray, List.set_cons_zero, List.set_cons_succ]
        refine late_take (i := 27) (oi := { dst := some 60, op := Op.fieldAddr 36 (Operand.tmp 5) 0, type := 0, pos := "law.go:110", after := #[{ on := 0, ground := Ground.phase }, { on := 1, ground := Ground.phase }, { on := 2, ground := Ground.phase }, { on := 3, ground := Ground.phase }, { on := 4, ground := Ground.phase }, { on := 5, ground := Ground.phase }, { on := 6, ground := Ground.phase }, { on := 7, ground := Ground.phase }, { on := 8, ground := Ground.phase }, { on := 9, ground := Ground.phase }, { on := 10, ground := Ground.phase }, { on := 11, ground := Ground.phase }, { on := 12, ground := Ground.phase }, { on := 13, ground := Ground.phase }, { on := 14, ground := Ground.phase }, { on := 15, ground := Ground.phase }, { on := 16, ground := Ground.phase }, { on := 17, ground := Ground.phase }, { on := 18, ground := Ground.phase }, { on := 19, ground := Ground.phase }, { on := 20, ground := Ground.phase }, { on := 21, ground := Ground.phase }, { on := 22, ground := Ground.phase }, { on := 23, ground := Ground.phase }, { on := 24, ground := Ground.phase }, { on := 25, ground := Ground.phase }, { on := 26, ground := Ground.phase }], guard := none }) (v := ?_) rfl (by kernel_rfl) (by kernel_rfl) (by kernel_rfl) (by kernel_rfl) (fun _ _ _ h => h) (Or.inl ⟨by rfl, ?hy⟩) (by assumption) ?_
        case hy => (intro w hSw; (try dsimp only at hSw); go_simp; first | done | with_reducible rfl)
        try simp only [Act.put, List.setIfInBounds_toArray, List.set_cons_zero, List.set_cons_succ]
        refine late_ready (rs := [28]) (by kernel_rfl) (by simp) ?_
        refine lates_last (o := { dst := none, op := Op.store 34 (Operand.tmp 60) (Operand.tmp 59), type := 0, pos := "law.go:110", after := #[{ on := 27, ground := Ground.data }, { on := 26, ground := Ground.data }, { on := 26, ground := Ground.chain }, { on := 0, ground := Ground.phase }, { on := 1, ground := Ground.phase }, { on := 2, ground := Ground.phase }, { on := 3, ground := Ground.phase }, { on := 4, ground := Ground.phase }, { on := 5, ground := Ground.phase }, { on := 6, ground := Ground.phase }, { on := 7, ground := Ground.phase }, { on := 8, ground := Ground.phase }, { on := 9, ground := Ground.phase }, { on := 10, ground := Ground.phase }, { on := 11, ground := Ground.phase }, { on := 12, ground := Ground.phase }, { on := 13, ground := Ground.phase }, { on := 14, ground := Ground.phase }, { on := 15, ground := Ground.phase }, { on := 16, ground := Ground.phase }, { on := 17, ground := Ground.phase }, { on := 18, ground := Ground.phase }, { on := 19, ground := Ground.phase }, { on := 20, ground := Ground.phase }, { on := 21, ground := Ground.phase }, { on := 22, ground := Ground.phase }, { on := 23, ground := Ground.phase }, { on := 24, ground := Ground.phase }, { on := 25, ground := Ground.phase }, { on := 26, ground := Ground.phase }], guard := none }) rfl (fun K hK => ?_)
        go_simp
        refine hK.out _ _ ?_
        clear hK K
        try simp only [Act.put, List.setIfInBounds_toArray, List.set_cons_zero, List.set_cons_succ]
        refine late_done (by kernel_rfl) ?_ _
        clear g1 g2 g3 g4 g5 g6 g7 a1 a2 a3 a4 a5 a6 a7 b1 b2 b3 b4 b5 b6 b7 hHeld
        obtain ⟨p2, q2, M', hk'⟩ := HR.out.2.2
        clear HR
        go_wp2
        go_roundg (n - (i + 1))
        case measure => omega
        case rel => exact ⟨_, i + 1, rfl, by omega, rfl, rfl, _, _, p2, q2, M', hk'⟩
    · obtain rfl : i = n := by omega
      have HM : Hid (M.map keyV = L.map keyV) := by
        show M.map keyV = L.map keyV
        rw [hks.key, List.take_of_length_le (by rw [HL.out]; exact Nat.le_refl _)]
      obtain ⟨a0, a1, a2, a3, af⟩ := id (HS.out.to hks.low).s
      clear hks hfz
      go_wp2_with (go_at_call 15; with_reducible refine Calls.mono (all_c (HV.out.below HKs.out.sg.2) HF.out HK.out) ?_; rintro e wl ⟨kl, rfl, hO, hb⟩; have H1 := hid (And.intro hO.out hb); clear hb hO x0 x1 y0 a0 a1 a2 a3 af)
      go_loopg [9] i (fun g v9 wr => ∃ (k : Nat) (M2 : List R), k ≤ i ∧ g = i - k ∧ v9 = .int .i64 k ∧ Rg.Ow w3.heap.size wr (some ⟨kl, 0, none⟩) i i kl 0 M2 ∧ Below w3.heap.size w3 wr)
      case atStart => exact ⟨0, _, Nat.zero_le _, rfl, rfl, H1.out.1.below (al _), via H1.out.2 (al _)⟩
      case round =>
        obtain ⟨k, M2, hk, rfl, rfl, hO, hB⟩ := hrel
        have HO := hid (And.intro hO hB)
        have hMl := Rg.vw_len hO.v
        clear H1
        by_cases hlt : k < i
        · have hlz : (k : Int) < (i : Int) := by omega
          have hkM : k < M2.length := by omega
          clear hO hB
          go_wp2_with (go_at_call 20; with_reducible refine Calls.mono (ofL_any _ _ _ _ _) ?_; rintro e wq ⟨rfl, hb⟩; have HOq := hid (HO.out.1.below hb); have HBq := hid (via (w := w3) HO.out.2 hb); obtain ⟨-, hxb, hxw, -⟩ := Rg.ow_four HOq.out hkM; obtain ⟨r, g0, g1, g2, g3, f0, f1, f2, f3⟩ := Rg.ow_four0 HOq.out hkM; have HXB := hid hxb; clear hb hxb)
          go_roundg (i - (k + 1))
          case measure => omega
          case rel => exact ⟨k + 1, M2.set k ⟨9, 9, 10, 10⟩, hlt, rfl, by simp, Rg.ow_set40 HOq.out hkM ⟨9, 9, 10, 10⟩, Rg.below_set4 HBq.out HXB.out _ _ _ _ _ _ _ _⟩
        · obtain rfl : i = k := by omega
          have HKe := hid (HKs.out.below hB)
          obtain ⟨⟨x0, x1⟩, -⟩ := id HKe.out.sg
          have y0 := HKe.out.c0
          have y1 := HKe.out.c1
          clear hO hB
          go_wp2_with (go_at_call 21; with_reducible refine Calls.mono (sameG_yes _ _ _ b off L _ _ p' q' M _ _ (HV.out.below HKe.out.sg.2) HKe.out.nw.vn HM.out) ?_; rintro e w5 ⟨rfl, hb⟩; have H5 := hid (via (w := w) HKe.out.sg.2 hb); clear hb)
          go_ret
          exact ⟨rfl, H5.out⟩

theorem own : ownKnob Tryd.prog.godebug = none := by kernel_rfl
theorem door_met (os : Os) (args : Array Value) : laidMetH Tryd.prog laid3 ((World.doorLaid Tryd.prog 24 os).forCall (fun _ _ => 0) ⟨#[], args, []⟩).memory :=
  laidMetH_of_parts3 (fuel := 8) (laidMet_of_run' 8 (by kernel_rfl) (by kernel_rfl)) (by kernel_rfl) (by kernel_rfl)

set_option maxHeartbeats 400000 in
set_option maxRecDepth 100000 in
theorem lifted (os : Os) (started : os.Started) (H : Type) (enc : TypeId × Value → H) :
    ReturnsInHanded {} Tryd.checked os 7 .any (fun w args => (Rows.needKeepsSpec.pre enc Tryd.prog Tryd.f7 [] false w args ∧ laidMetH Tryd.prog laid3 w) ∧ sizedMet enc Tryd.prog Tryd.f7 (OpenSpec.ofChange Rows.needKeepsSpec) false w args)
      (Rows.needKeepsSpec.post enc Tryd.prog Tryd.f7 false true false false) := by
  refine returnsInHanded_of_change_and (C := Tryd.checked) (X := fun w _ => laidMetH Tryd.prog laid3 w) (fun _ _ _ hh h => h.of_heap hh) own started (by kernel_rfl) Tryd.func7
    (ChangeSpec.witness_shaped (enc := enc) (C := Tryd.checked) (os := os) (X := fun w _ => laidMetH Tryd.prog laid3 w) false (World.doorLaid Tryd.prog 24 os) #[.agg #[.slice none 0 0, .int .i64 0], .agg #[.int .i64 0, .int .i64 0, .int .i64 0, .int .i64 0]] 8 rfl (World.shaped_of_RefB (by kernel_rfl) (by kernel_rfl)) (by kernel_rfl) (by kernel_rfl) (by kernel_rfl) (door_met os _)) ?_
  intro W base args ds gs before hval0 hW _ _ hL _
  have hval : ∀ (j : Nat) t v, Tryd.f7.params[j]? = some t → args[j]? = some v → Value.okWide Tryd.prog W .any base t v := hval0
  have hW' := hW
  obtain ⟨p, q, hA0, hV, rfl, hfz, hnd⟩ := hW
  have hA : DataW.TrodAll enc Tryd.prog W 0 (fun _ => true) true Tryd.f7.params.toList args.toList ds p := hA0
  rw [Tryd.params7] at hA hval
  obtain ⟨v0, vs0, d0, ds0, p0, q0, hargs, rfl, rfl, h0, r0⟩ := trodAll_cons hA
  obtain ⟨v1, vs1, d1, ds1, p1, q1, rfl, rfl, rfl, h1, r1⟩ := trodAll_cons r0
  obtain ⟨rfl, rfl, rfl⟩ := trodAll_nil r1
  obtain rfl : args = #[v0, v1] := by cases args; simp_all
  obtain ⟨rfl, rfl⟩ := trodVars_none hV
  obtain ⟨ao0, n0, c0, b0, off0, L0, out0, rfl, hv0⟩ := open_graph (hval 0 36 v0 rfl rfl) h0
  obtain ⟨x1, y1, z1, t1, rfl⟩ := open_rect (hval 1 26 v1 rfl rfl) h1
  clear hA0 hval0
  have hT := tabs_of hL
  simp only [List.append_nil] at hW'
  have hlt0 : ∀ x ∈ p0, x.block < W.heap.size := fun x hx => hW'.lt x (by simp [hx])
  have hlt1 : ∀ x ∈ p1, x.block < W.heap.size := fun x hx => hW'.lt x (by simp [hx])
  refine (walk ao0 n0 c0 b0 off0 L0 out0 x1 y1 z1 t1 W hv0 hT).mono fun e W' ⟨he, hg⟩ => ?_
  subst he
  have tr0 := Below.trod laidOut (by kernel_rfl) (of_decide_eq_true (by kernel_rfl)) h0 hg (fun x hx => hlt0 x hx)
  have tr1 := Below.trod laidOut (by kernel_rfl) (of_decide_eq_true (by kernel_rfl)) h1 hg (fun x hx => hlt1 x hx)
  exact ⟨_, rfl, ⟨_, _, _, _, _, _, hW', (trodAll_cons_mk (shut_bool Tryd.underlying4 _) trodAll_mk0), (trodAll_cons_mk tr0 (trodAll_cons_mk tr1 trodAll_mk0)), rfl, hg.frame _, fun h => by cases h⟩⟩

theorem over : Rows.NeedKeepsSaid :=
  OpenClaim.holds_of_wide 7 Tryd.f7 rfl rfl rfl rfl rfl rfl rfl ⟨rfl, rfl, rfl, rfl, rfl⟩ rfl rfl rfl rfl rfl (by kernel_rfl) Tryd.func7 (by kernel_rfl)
    (of_decide_eq_true (by kernel_rfl)) (by unfold Func.isWrapper; first | (rw [if_pos (by decide +kernel)]; kernel_rfl) | (rw [if_neg (by decide +kernel)]; exact ⟨rfl, rfl⟩))
    (fun os started H enc _ => lifted os started H enc)

theorem proved : Rows.NeedKeepsCardSaid :=
  Claim7.holds_tied_plain_at .later [] [.data, .data, .data] true (true, "71b3e36144abff0af242cc6e68620bceea4b925d8c9046e5d34f8d7acc8bfaac") true
    over (fun _ h => by cases h) (by kernel_rfl) (fun _ h => by cases h) needKeeps_row_tie rfl ⟨rfl, rfl⟩ (by kernel_rfl) rfl
    (fun f fn hf hfn => by
      obtain rfl : f = 7 := Option.some.inj ((show Tryd.prog.funcNamed "gouache/gouachelaw14.NeedKeeps" = some 7 by kernel_rfl).symm.trans hf) |>.symm
      obtain rfl : fn = Tryd.f7 := (Option.some.inj (Tryd.func7.symm.trans hfn)).symm
      exact ⟨by kernel_rfl, fun j t ht => by
        rw [Tryd.params7] at ht
        have hm : t ∈ [36, 26] := by simpa using Array.mem_of_getElem? ht
        have hall : ([36, 26].all fun u => !Tryd.prog.wantsStandIn u) = true := by kernel_rfl
        exact (show Tryd.prog.wantsStandIn t = false by simpa using List.all_eq_true.1 hall t hm)⟩)
    (by kernel_rfl)
#print axioms proved
end Go.Proofs.YtamojciiacmjaaaDoor.needKeeps
