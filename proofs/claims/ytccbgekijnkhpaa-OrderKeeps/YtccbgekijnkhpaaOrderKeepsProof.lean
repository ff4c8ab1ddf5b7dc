/- For every filter: what is handed in stays, whatever is written into what was answered; no condition. -/
import Derived.Test.YtccbgekijnkhpaaRows
import Derived.WalkKit
import Derived.ProofKit
import Derived.OpenShut
import Derived.Test.YtccbgekijnkhpaaOpen
import Derived.Test.YtccbgekijnkhpaaUses
import Derived.Test.YtccbgekijnkhpaaLate
import Derived.Test.YtccbgekijnkhpaaKeepW
namespace Go.Proofs.Ytccbgekijnkhpaa.orderKeeps
open Go.ChangeShapes Go.WideShapes Go.ChangeAt Go.RowKit Num
set_option linter.unusedVariables false
set_option linter.unusedSimpArgs false
attribute [local go_sem ↓] run_app
attribute [local go_sem] lenV_slice
set_option maxRecDepth 100000 in
set_option maxHeartbeats 8000000 in
theorem walk (ao : Option Addr) (n c b off : Nat) (L : List Nv) (out : Int) (w : World) (h : Vn w ao n c b off L) :
    Calls Try.prog 7 #[.agg #[.slice ao n c, .int .i64 out]] w fun e w' => e = .returned (.bool true) ∧ Below w.heap.size w w' := by
  have hl := vn_len h
  have hs0 := sg_new w ao n c out 24
  have HS := hid hs0
  have HV := hid h
  clear h hs0
  rcases hfew : fewB L 24 with _ | _
  · go_enter Try.func7, Try.ntmps7
    go_wp2_with (first
      | (go_at_call 8; with_reducible refine Calls.mono (awake_any _) ?_; rintro e w1 ⟨rfl, hb⟩; replace HS := hid (sg_below HS.out hb); obtain ⟨⟨x0, x1⟩, -⟩ := id HS.out; clear hb)
      | (go_at_call 9; with_reducible refine Calls.mono (few9_any _ _ _ b off L _ _ (HV.out.below HS.out.2)) ?_; rintro e w2 ⟨rfl, hb⟩; replace HS := hid (sg_below HS.out hb); rw [hfew]; clear x0 x1; obtain ⟨⟨x0, x1⟩, -⟩ := id HS.out; clear hb))
    go_ret
    exact ⟨rfl, HS.out.2⟩
  · obtain ⟨hn, hf, hff⟩ := few_of hl hfew (by decide)
    have HP : Hid (∀ v, v ∈ L → v.np ≤ 1000) := hid fun v hv => Nat.le_trans (hff v hv).2 (by decide)
    clear hff
    have HF := hid (And.intro hfew (And.intro hf (And.intro (few_l hl) hl)))
    clear hfew hf
    go_enter Try.func7, Try.ntmps7
    go_wp2_with (first
      | (go_at_call 8; with_reducible refine Calls.mono (awake_any _) ?_; rintro e w1 ⟨rfl, hb⟩; replace HS := hid (sg_below HS.out hb); obtain ⟨⟨x0, x1⟩, -⟩ := id HS.out; clear hb)
      | (go_at_call 9; with_reducible refine Calls.mono (few9_any _ _ _ b off L _ _ (HV.out.below HS.out.2)) ?_; rintro e w2 ⟨rfl, hb⟩; replace HS := hid (sg_below HS.out hb); rw [HF.out.1]; clear x0 x1; obtain ⟨⟨x0, x1⟩, -⟩ := id HS.out; clear hb))
    go_loopg [4] n (fun gk x4 wr => ∃ (w3 : World) (i : Nat), w3 = wr ∧ i ≤ n ∧ gk = n - i ∧ x4 = .int .i64 i ∧ ∃ aP cP p q M, Ks w w2 ao n c out L i aP cP p q M w3)
    case atStart =>
      clear x0 x1
      refine ⟨_, 0, rfl, Nat.zero_le _, rfl, rfl, none, 0, 0, 0, [], ?_⟩
      have hb : Below w2.heap.size w2 (w2.alloc (.cells #[.slice none 0 0, .int .i64 out] 24)) := (Below.refl _ _).alloc (Nat.le_refl _) _
      exact ⟨sg_below HS.out hb, hb, World.cell?_alloc_new w2 _ _ 0, World.cell?_alloc_new w2 _ _ 1, World.frozen?_alloc_new w2 _ _ 0, nw_nil _ _ _, rfl, World.block_lt_of_cell? _ _ HS.out.1.1⟩
    case round =>
      obtain ⟨w3, i, rfl, hi, rfl, rfl, aP, cP, p, q, M, hks⟩ := hrel
      have HK := hid hks
      obtain ⟨⟨x0, x1⟩, -⟩ := id hks.sg
      have y0 := hks.c0
      have hfz := hks.fz
      by_cases hlt : i < n
      · have hltz : (i : Int) < (n : Int) := by omega
        obtain ⟨v, hv⟩ : ∃ v, L[i]? = some v := ⟨_, List.getElem?_eq_getElem (by rw [HF.out.2.2.2]; exact hlt)⟩
        obtain ⟨rfl, ⟨f0, f1, f2⟩, hvi, hvp⟩ := vn_at (HV.out.below hks.sg.2) hv
        have hni := HF.out.2.1.i v (List.mem_of_getElem? hv)
        have hnp := HP.out v (List.mem_of_getElem? hv)
        have hS : S5 w.heap.size w2.heap.size b (off + i * 3) (.slice (some ⟨b, off, none⟩) n c) (.slice aP i cP) (.int .i64 v.op) (.slice v.ai v.ni v.ci) (.slice v.ap v.np v.cp) w3 := ⟨x0, y0, f0, f1, f2⟩
        have d1 : Below w3.heap.size w3 (w3.alloc (.cells #[] 3)).drew := ((Below.refl _ _).alloc (Nat.le_refl _) _).drew
        have d2 : Below w3.heap.size w3 ((w3.alloc (.cells #[] 3)).alloc (.cells #[] 3)).drew := (alloc_low ((Below.refl _ _).alloc (Nat.le_refl _) _) _).drew
        obtain ⟨⟨g1, g2, g3, g4⟩, ⟨g5, g6, g7⟩, hkg⟩ := ks_round hks HV.out hv (by omega) hni hnp ((w3.alloc (.cells #[] 3)).drew) w3.heap.size d1 (((apW Try.prog #[28, 28] 28 (w3.alloc (.cells #[] 3)).drew (.slice (some ⟨w3.heap.size, 0, none⟩) 0 0) (.slice v.ai v.ni v.ci)).alloc (.cells #[] 3))) (apW Try.prog #[28, 28] 28 (w3.alloc (.cells #[] 3)).drew (.slice (some ⟨w3.heap.size, 0, none⟩) 0 0) (.slice v.ai v.ni v.ci)).heap.size ((Below.refl _ _).alloc (Nat.le_refl _) _)
        obtain ⟨⟨a1, a2, a3, a4⟩, ⟨a5, a6, a7⟩, hka⟩ := ks_round hks HV.out hv (by omega) hni hnp (((w3.alloc (.cells #[] 3)).alloc (.cells #[] 3)).drew) w3.heap.size d2 ((apW Try.prog #[28, 28] 28 ((w3.alloc (.cells #[] 3)).alloc (.cells #[] 3)).drew (.slice (some ⟨w3.heap.size, 0, none⟩) 0 0) (.slice v.ai v.ni v.ci))) (w3.heap.size + 1) (Below.refl _ _)
        obtain ⟨⟨b1, b2, b3, b4⟩, ⟨b5, b6, b7⟩, hkb⟩ := ks_round hks HV.out hv (by omega) hni hnp (((w3.alloc (.cells #[] 3)).alloc (.cells #[] 3)).drew) (w3.heap.size + 1) d2 ((apW Try.prog #[28, 28] 28 ((w3.alloc (.cells #[] 3)).alloc (.cells #[] 3)).drew (.slice (some ⟨(w3.heap.size + 1), 0, none⟩) 0 0) (.slice v.ai v.ni v.ci))) w3.heap.size (Below.refl _ _)
        have HR := hid (And.intro hkg (And.intro hka hkb))
        clear hks hvi hvp x0 x1 y0 f0 f1 f2 hkg hka hkb d1 d2
        go_wp2
        refine wp_region_late (S := (fun w' => (w'.cell? ⟨w.heap.size, 0, none⟩ = some (.slice (some ⟨b, off, none⟩) n c) ∧ w'.cell? ⟨w2.heap.size, 0, none⟩ = some (.slice aP i cP) ∧ w'.cell? ⟨b, off + i * 3, none⟩ = some (.int .i64 v.op) ∧ w'.cell? ⟨b, off + i * 3 + 1, none⟩ = some (.slice v.ai v.ni v.ci) ∧ w'.cell? ⟨b, off + i * 3 + 2, none⟩ = some (.slice v.ap v.np v.cp)))) 28 (by kernel_rfl) ?_ (fun hHeld => ?_)
        · repeat (first | with_reducible assumption | with_reducible refine s5_drew ?_ | with_reducible refine s5_alloc ?_)
        refine late_take (i := 0) (oi := { dst := some 28, op := Op.fieldAddr 24 (Operand.tmp 3) 0, type := 0, pos := "law.go:104", after := #[], guard := none }) (v := ?_) rfl (by kernel_rfl) (by kernel_rfl) (by kernel_rfl) (by kernel_rfl) (fun _ _ _ h => h) (Or.inl ⟨by rfl, ?hy⟩) (by assumption) ?_
        case hy => (intro w hSw; (try dsimp only at hSw); go_simp; first | done | with_reducible rfl)
        try simp only [Act.put, List.setIfInBounds_toArray, List.set_cons_zero, List.set_cons_succ]
        refine late_take (i := 1) (oi := { dst := some 29, op := Op.load 22 (Operand.tmp 28), type := 22, pos := "law.go:104", after := #[{ on := 0, ground := Ground.data }], guard := none }) (v := ?_) rfl (by kernel_rfl) (by kernel_rfl) (by kernel_rfl) (by kernel_rfl) (fun _ _ _ h => h) (Or.inl ⟨by rfl, ?hy⟩) (by assumption) ?_
        case hy => (intro w hSw; (try dsimp only at hSw); go_simp; first | done | with_reducible rfl)
        try simp only [Act.put, List.setIfInBounds_toArray, List.set_cons_zero, List.set_cons_succ]
        refine late_take (i := 2) (oi := { dst := some 30, op := Op.fieldAddr 24 (Operand.tmp 1) 0, type := 0, pos := "law.go:104", after := #[], guard := none }) (v := ?_) rfl (by kernel_rfl) (by kernel_rfl) (by kernel_rfl) (by kernel_rfl) (fun _ _ _ h => h) (Or.inl ⟨by rfl, ?hy⟩) (by assumption) ?_
        case hy => (intro w hSw; (try dsimp only at hSw); go_simp; first | done | with_reducible rfl)
        try simp only [Act.put, List.setIfInBounds_toArray, List.set_cons_zero, List.set_cons_succ]
        refine late_take (i := 3) (oi := { dst := some 31, op := Op.load 22 (Operand.tmp 30), type := 22, pos := "law.go:104", after := #[{ on := 2, ground := Ground.data }], guard := none }) (v := ?_) rfl (by kernel_rfl) (by kernel_rfl) (by kernel_rfl) (by kernel_rfl) (fun _ _ _ h => h) (Or.inl ⟨by rfl, ?hy⟩) (by assumption) ?_
        case hy => (intro w hSw; (try dsimp only at hSw); go_simp; first | done | with_reducible rfl)
        try simp only [Act.put, List.setIfInBounds_toArray, List.set_cons_zero, List.set_cons_succ]
        refine late_take (i := 4) (oi := { dst := some 32, op := Op.move (Operand.tmp 4), type := 3, pos := "law.go:104", after := #[], guard := none }) (v := ?_) rfl (by kernel_rfl) (by kernel_rfl) (by kernel_rfl) (by kernel_rfl) (fun _ _ _ h => h) (Or.inl ⟨by rfl, ?hy⟩) (by assumption) ?_
        case hy => (intro w hSw; (try dsimp only at hSw); go_simp; first | done | with_reducible rfl)
        try simp only [Act.put, List.setIfInBounds_toArray, List.set_cons_zero, List.set_cons_succ]
        refine late_take (i := 5) (oi := { dst := some 33, op := Op.indexAddr 22 (Operand.tmp 31) (Operand.tmp 32), type := 0, pos := "law.go:104", after := #[{ on := 3, ground := Ground.data }, { on := 4, ground := Ground.data }], guard := none }) (v := ?_) rfl (by kernel_rfl) (by kernel_rfl) (by kernel_rfl) (by kernel_rfl) (fun _ _ _ h => h) (Or.inl ⟨by rfl, ?hy⟩) (by assumption) ?_
        case hy => (intro w hSw; (try dsimp only at hSw); go_simp; first | done | with_reducible rfl)
        try simp only [Act.put, List.setIfInBounds_toArray, List.set_cons_zero, List.set_cons_succ]
        refine late_take (i := 6) (oi := { dst := some 34, op := Op.fieldAddr 36 (Operand.tmp 33) 0, type := 0, pos := "law.go:104", after := #[{ on := 5, ground := Ground.data }], guard := none }) (v := ?_) rfl (by kernel_rfl) (by kernel_rfl) (by kernel_rfl) (by kernel_rfl) (fun _ _ _ h => h) (Or.inl ⟨by rfl, ?hy⟩) (by assumption) ?_
        case hy => (intro w hSw; (try dsimp only at hSw); go_simp; first | done | with_reducible rfl)
        try simp only [Act.put, List.setIfInBounds_toArray, List.set_cons_zero, List.set_cons_succ]
        refine late_take (i := 7) (oi := { dst := some 35, op := Op.load 3 (Operand.tmp 34), type := 3, pos := "law.go:104", after := #[{ on := 6, ground := Ground.data }], guard := none }) (v := ?_) rfl (by kernel_rfl) (by kernel_rfl) (by kernel_rfl) (by kernel_rfl) (fun _ _ _ h => h) (Or.inl ⟨by rfl, ?hy⟩) (by assumption) ?_
        case hy => (intro w hSw; (try dsimp only at hSw); go_simp; first | done | with_reducible rfl)
        try simp only [Act.put, List.setIfInBounds_toArray, List.set_cons_zero, List.set_cons_succ]
        refine late_take (i := 9) (oi := { dst := some 37, op := Op.fieldAddr 24 (Operand.tmp 1) 0, type := 0, pos := "law.go:104", after := #[], guard := none }) (v := ?_) rfl (by kernel_rfl) (by kernel_rfl) (by kernel_rfl) (by kernel_rfl) (fun _ _ _ h => h) (Or.inl ⟨by rfl, ?hy⟩) (by assumption) ?_
        case hy => (intro w hSw; (try dsimp only at hSw); go_simp; first | done | with_reducible rfl)
        try simp only [Act.put, List.setIfInBounds_toArray, List.set_cons_zero, List.set_cons_succ]
        refine late_take (i := 10) (oi := { dst := some 38, op := Op.load 22 (Operand.tmp 37), type := 22, pos := "law.go:104", after := #[{ on := 9, ground := Ground.data }], guard := none }) (v := ?_) rfl (by kernel_rfl) (by kernel_rfl) (by kernel_rfl) (by kernel_rfl) (fun _ _ _ h => h) (Or.inl ⟨by rfl, ?hy⟩) (by assumption) ?_
        case hy => (intro w hSw; (try dsimp only at hSw); go_simp; first | done | with_reducible rfl)
        try simp only [Act.put, List.setIfInBounds_toArray, List.set_cons_zero, List.set_cons_succ]
        refine late_take (i := 11) (oi := { dst := some 39, op := Op.move (Operand.tmp 4), type := 3, pos := "law.go:104", after := #[], guard := none }) (v := ?_) rfl (by kernel_rfl) (by kernel_rfl) (by kernel_rfl) (by kernel_rfl) (fun _ _ _ h => h) (Or.inl ⟨by rfl, ?hy⟩) (by assumption) ?_
        case hy => (intro w hSw; (try dsimp only at hSw); go_simp; first | done | with_reducible rfl)
        try simp only [Act.put, List.setIfInBounds_toArray, List.set_cons_zero, List.set_cons_succ]
        refine late_take (i := 12) (oi := { dst := some 40, op := Op.indexAddr 22 (Operand.tmp 38) (Operand.tmp 39), type := 0, pos := "law.go:104", after := #[{ on := 10, ground := Ground.data }, { on := 11, ground := Ground.data }], guard := none }) (v := ?_) rfl (by kernel_rfl) (by kernel_rfl) (by kernel_rfl) (by kernel_rfl) (fun _ _ _ h => h) (Or.inl ⟨by rfl, ?hy⟩) (by assumption) ?_
        case hy => (intro w hSw; (try dsimp only at hSw); go_simp; first | done | with_reducible rfl)
        try simp only [Act.put, List.setIfInBounds_toArray, List.set_cons_zero, List.set_cons_succ]
        refine late_take (i := 13) (oi := { dst := some 41, op := Op.fieldAddr 36 (Operand.tmp 40) 1, type := 0, pos := "law.go:104", after := #[{ on := 12, ground := Ground.data }], guard := none }) (v := ?_) rfl (by kernel_rfl) (by kernel_rfl) (by kernel_rfl) (by kernel_rfl) (fun _ _ _ h => h) (Or.inl ⟨by rfl, ?hy⟩) (by assumption) ?_
        case hy => (intro w hSw; (try dsimp only at hSw); go_simp; first | done | with_reducible rfl)
        try simp only [Act.put, List.setIfInBounds_toArray, List.set_cons_zero, List.set_cons_succ]
        refine late_take (i := 14) (oi := { dst := some 42, op := Op.load 28 (Operand.tmp 41), type := 28, pos := "law.go:104", after := #[{ on := 13, ground := Ground.data }], guard := none }) (v := ?_) rfl (by kernel_rfl) (by kernel_rfl) (by kernel_rfl) (by kernel_rfl) (fun _ _ _ h => h) (Or.inl ⟨by rfl, ?hy⟩) (by assumption) ?_
        case hy => (intro w hSw; (try dsimp only at hSw); go_simp; first | done | with_reducible rfl)
        try simp only [Act.put, List.setIfInBounds_toArray, List.set_cons_zero, List.set_cons_succ]
        refine late_take (i := 17) (oi := { dst := some 45, op := Op.fieldAddr 24 (Operand.tmp 1) 0, type := 0, pos := "law.go:104", after := #[], guard := none }) (v := ?_) rfl (by kernel_rfl) (by kernel_rfl) (by kernel_rfl) (by kernel_rfl) (fun _ _ _ h => h) (Or.inl ⟨by rfl, ?hy⟩) (by assumption) ?_
        case hy => (intro w hSw; (try dsimp only at hSw); go_simp; first | done | with_reducible rfl)
        try simp only [Act.put, List.setIfInBounds_toArray, List.set_cons_zero, List.set_cons_succ]
        refine late_take (i := 18) (oi := { dst := some 46, op := Op.load 22 (Operand.tmp 45), type := 22, pos := "law.go:104", after := #[{ on := 17, ground := Ground.data }], guard := none }) (v := ?_) rfl (by kernel_rfl) (by kernel_rfl) (by kernel_rfl) (by kernel_rfl) (fun _ _ _ h => h) (Or.inl ⟨by rfl, ?hy⟩) (by assumption) ?_
        case hy => (intro w hSw; (try dsimp only at hSw); go_simp; first | done | with_reducible rfl)
        try simp only [Act.put, List.setIfInBounds_toArray, List.set_cons_zero, List.set_cons_succ]
        refine late_take (i := 19) (oi := { dst := some 47, op := Op.move (Operand.tmp 4), type := 3, pos := "law.go:104", after := #[], guard := none }) (v := ?_) rfl (by kernel_rfl) (by kernel_rfl) (by kernel_rfl) (by kernel_rfl) (fun _ _ _ h => h) (Or.inl ⟨by rfl, ?hy⟩) (by assumption) ?_
        case hy => (intro w hSw; (try dsimp only at hSw); go_simp; first | done | with_reducible rfl)
        try simp only [Act.put, List.setIfInBounds_toArray, List.set_cons_zero, List.set_cons_succ]
        refine late_take (i := 20) (oi := { dst := some 48, op := Op.indexAddr 22 (Operand.tmp 46) (Operand.tmp 47), type := 0, pos := "law.go:104", after := #[{ on := 18, ground := Ground.data }, { on := 19, ground := Ground.data }], guard := none }) (v := ?_) rfl (by kernel_rfl) (by kernel_rfl) (by kernel_rfl) (by kernel_rfl) (fun _ _ _ h => h) (Or.inl ⟨by rfl, ?hy⟩) (by assumption) ?_
        case hy => (intro w hSw; (try dsimp only at hSw); go_simp; first | done | with_reducible rfl)
        try simp only [Act.put, List.setIfInBounds_toArray, List.set_cons_zero, List.set_cons_succ]
        refine late_take (i := 21) (oi := { dst := some 49, op := Op.fieldAddr 36 (Operand.tmp 48) 2, type := 0, pos := "law.go:104", after := #[{ on := 20, ground := Ground.data }], guard := none }) (v := ?_) rfl (by kernel_rfl) (by kernel_rfl) (by kernel_rfl) (by kernel_rfl) (fun _ _ _ h => h) (Or.inl ⟨by rfl, ?hy⟩) (by assumption) ?_
        case hy => (intro w hSw; (try dsimp only at hSw); go_simp; first | done | with_reducible rfl)
        try simp only [Act.put, List.setIfInBounds_toArray, List.set_cons_zero, List.set_cons_succ]
        refine late_take (i := 22) (oi := { dst := some 50, op := Op.load 28 (Operand.tmp 49), type := 28, pos := "law.go:104", after := #[{ on := 21, ground := Ground.data }], guard := none }) (v := ?_) rfl (by kernel_rfl) (by kernel_rfl) (by kernel_rfl) (by kernel_rfl) (fun _ _ _ h => h) (Or.inl ⟨by rfl, ?hy⟩) (by assumption) ?_
        case hy => (intro w hSw; (try dsimp only at hSw); go_simp; first | done | with_reducible rfl)
        try simp only [Act.put, List.setIfInBounds_toArray, List.set_cons_zero, List.set_cons_succ]
        refine late_ready (rs := [8, 16]) (by kernel_rfl) (by simp) ?_
        refine lates_cons (o := { dst := some 36, op := Op.buildSlice 28 0 #[], type := 28, pos := "law.go:104", after := #[], guard := none }) rfl (fun K hK => ?_) (lates_cons (o := { dst := some 44, op := Op.buildSlice 28 0 #[], type := 28, pos := "law.go:104", after := #[], guard := none }) rfl (fun K hK => ?_) (lates_nil))
        · go_simp
          refine hK.out _ _ ?_ (fun hHeld => ?_)
          · repeat (first | with_reducible assumption | with_reducible refine s5_drew ?_ | with_reducible refine s5_alloc ?_)
          clear hK K
          try simp only [Act.put, List.setIfInBounds_toArray, List.set_cons_zero, List.set_cons_succ]
          refine late_ready (rs := [15, 16]) (by kernel_rfl) (by simp) ?_
          refine lates_cons (o := { dst := some 43, op := Op.call { callee := Callee.builtin Builtin.append, args := #[Operand.tmp 36, Operand.tmp 42], argTypes := #[28, 28] }, type := 28, pos := "law.go:104", after := #[{ on := 8, ground := Ground.data }, { on := 14, ground := Ground.data }], guard := none }) rfl (fun K hK => ?_) (lates_cons (o := { dst := some 44, op := Op.buildSlice 28 0 #[], type := 28, pos := "law.go:104", after := #[], guard := none }) rfl (fun K hK => ?_) (lates_nil))
          · go_simp
            refine hK.out _ _ ?_ (fun hHeld => ?_)
            · repeat (first | with_reducible assumption | with_reducible refine s5_drew ?_ | with_reducible refine s5_alloc ?_)
            clear hK K
            try simp only [Act.put, List.setIfInBounds_toArray, List.set_cons_zero, List.set_cons_succ]
            refine late_ready (rs := [16]) (by kernel_rfl) (by simp) ?_
            refine lates_cons (o := { dst := some 44, op := Op.buildSlice 28 0 #[], type := 28, pos := "law.go:104", after := #[], guard := none }) rfl (fun K hK => ?_) (lates_nil)
            go_simp
            refine hK.out _ _ ?_ (fun hHeld => ?_)
            · repeat (first | with_reducible assumption | with_reducible refine s5_drew ?_ | with_reducible refine s5_alloc ?_)
            clear hK K
            try simp only [Act.put, List.setIfInBounds_toArray, List.set_cons_zero, List.set_cons_succ]
            refine late_ready (rs := [23]) (by kernel_rfl) (by simp) ?_
            refine lates_cons (o := { dst := some 51, op := Op.call { callee := Callee.builtin Builtin.append, args := #[Operand.tmp 44, Operand.tmp 50], argTypes := #[28, 28] }, type := 28, pos := "law.go:104", after := #[{ on := 16, ground := Ground.data }, { on := 22, ground := Ground.data }, { on := 15, ground := Ground.chain }], guard := none }) rfl (fun K hK => ?_) (lates_nil)
            go_simp
            refine hK.out _ _ ?_ (fun hHeld => ?_)
            · repeat (first | with_reducible assumption | with_reducible refine s5_drew ?_ | with_reducible refine s5_alloc ?_)
            clear hK K
            try simp only [Act.put, List.setIfInBounds_toArray, List.set_cons_zero, List.set_cons_succ]
            refine late_take (i := 24) (oi := { dst := some 52, op := Op.build 36 #[(0, Operand.tmp 35), (1, Operand.tmp 43), (2, Operand.tmp 51)], type := 36, pos := "law.go:104", after := #[{ on := 7, ground := Ground.data }, { on := 15, ground := Ground.data }, { on := 23, ground := Ground.data }], guard := none }) (v := ?_) rfl (by kernel_rfl) (by kernel_rfl) (by kernel_rfl) (by kernel_rfl) (fun _ _ _ h => h) (Or.inl ⟨by rfl, ?hy⟩) (by assumption) ?_
            case hy => (intro w hSw; (try dsimp only at hSw); go_simp; first | done | with_reducible rfl)
            try simp only [Act.put, List.setIfInBounds_toArray, List.set_cons_zero, List.set_cons_succ]
            refine late_ready (rs := [25]) (by kernel_rfl) (by simp) ?_
            refine lates_cons (o := { dst := some 53, op := Op.buildSlice 22 1 #[(0, Operand.tmp 52)], type := 22, pos := "law.go:104", after := #[{ on := 24, ground := Ground.data }], guard := none }) rfl (fun K hK => ?_) (lates_nil)
            go_simp
            refine hK.out _ _ ?_ (fun hHeld => ?_)
            · repeat (first | with_reducible assumption | with_reducible refine s5_drew ?_ | with_reducible refine s5_alloc ?_)
            clear hK K
            try simp only [Act.put, List.setIfInBounds_toArray, List.set_cons_zero, List.set_cons_succ]
            refine late_ready (rs := [26]) (by kernel_rfl) (by simp) ?_
            refine lates_cons (o := { dst := some 54, op := Op.call { callee := Callee.builtin Builtin.append, args := #[Operand.tmp 29, Operand.tmp 53], argTypes := #[22, 22] }, type := 22, pos := "law.go:104", after := #[{ on := 1, ground := Ground.data }, { on := 25, ground := Ground.data }, { on := 23, ground := Ground.chain }], guard := none }) rfl (fun K hK => ?_) (lates_nil)
            go_simp
            refine hK.out _ _ ?_ (fun hHeld => ?_)
            · repeat (first | with_reducible assumption | with_reducible refine s5_drew ?_ | with_reducible refine s5_alloc ?_)
            clear hK K
            try simp only [Act.put, List.setIfInBounds_toArray, List.set_cons_zero, List.set_cons_succ]
            refine late_take (i := 27) (oi := { dst := some 55, op := Op.fieldAddr 24 (Operand.tmp 3) 0, type := 0, pos := "law.go:104", after := #[{ on := 0, ground := Ground.phase }, { on := 1, ground := Ground.phase }, { on := 2, ground := Ground.phase }, { on := 3, ground := Ground.phase }, { on := 4, ground := Ground.phase }, { on := 5, ground := Ground.phase }, { on := 6, ground := Ground.phase }, { on := 7, ground := Ground.phase }, { on := 8, ground := Ground.phase }, { on := 9, ground := Ground.phase }, { on := 10, ground := Ground.phase }, { on := 11, ground := Ground.phase }, { on := 12, ground := Ground.phase }, { on := 13, ground := Ground.phase }, { on := 14, ground := Ground.phase }, { on := 15, ground := Ground.phase }, { on := 16, ground := Ground.phase }, { on := 17, ground := Ground.phase }, { on := 18, ground := Ground.phase }, { on := 19, ground := Ground.phase }, { on := 20, ground := Ground.phase }, { on := 21, ground := Ground.phase }, { on := 22, ground := Ground.phase }, { on := 23, ground := Ground.phase }, { on := 24, ground := Ground.phase }, { on := 25, ground := Ground.phase }, { on := 26, ground := Ground.phase }], guard := none }) (v := ?_) rfl (by kernel_rfl) (by kernel_rfl) (by kernel_rfl) (by kernel_rfl) (fun _ _ _ h => h) (Or.inl ⟨by rfl, ?hy⟩) (by assumption) ?_
            case hy => (intro w hSw; (try dsimp only at hSw); go_simp; first | done | with_reducible rfl)
            try simp only [Act.put, List.setIfInBounds_toArray, List.set_cons_zero, List.set_cons_succ]
            refine late_ready (rs := [28]) (by kernel_rfl) (by simp) ?_
            refine lates_last (o := { dst := none, op := Op.store 22 (Operand.tmp 55) (Operand.tmp 54), type := 0, pos := "law.go:104", after := #[{ on := 27, ground := Ground.data }, { on := 26, ground := Ground.data }, { on := 26, ground := Ground.chain }, { on := 0, ground := Ground.phase }, { on := 1, ground := Ground.phase }, { on := 2, ground := Ground.phase }, { on := 3, ground := Ground.phase }, { on := 4, ground := Ground.phase }, { on := 5, ground := Ground.phase }, { on := 6, ground := Ground.phase }, { on := 7, ground := Ground.phase }, { on := 8, ground := Ground.phase }, { on := 9, ground := Ground.phase }, { on := 10, ground := Ground.phase }, { on := 11, ground := Ground.phase }, { on := 12, ground := Ground.phase }, { on := 13, ground := Ground.phase }, { on := 14, ground := Ground.phase }, { on := 15, ground := Ground.phase }, { on := 16, ground := Ground.phase }, { on := 17, ground := Ground.phase }, { on := 18, ground := Ground.phase }, { on := 19, ground := Ground.phase }, { on := 20, ground := Ground.phase }, { on := 21, ground := Ground.phase }, { on := 22, ground := Ground.phase }, { on := 23, ground := Ground.phase }, { on := 24, ground := Ground.phase }, { on := 25, ground := Ground.phase }, { on := 26, ground := Ground.phase }], guard := none }) rfl (fun K hK => ?_)
            go_simp
            refine hK.out _ _ ?_
            clear hK K
            try simp only [Act.put, List.setIfInBounds_toArray, List.set_cons_zero, List.set_cons_succ]
            refine late_done (by kernel_rfl) ?_ _
            clear g1 g2 g3 g4 g5 g6 g7 a1 a2 a3 a4 a5 a6 a7 b1 b2 b3 b4 b5 b6 b7 hHeld
            obtain ⟨p', q', M', hk'⟩ := HR.out.1
            clear HR
            go_wp2
            go_roundg (n - (i + 1))
            case measure => omega
            case rel => exact ⟨_, i + 1, rfl, by omega, rfl, rfl, _, _, p', q', M', hk'⟩
          · go_simp
            refine hK.out _ _ ?_ (fun hHeld => ?_)
            · repeat (first | with_reducible assumption | with_reducible refine s5_drew ?_ | with_reducible refine s5_alloc ?_)
            clear hK K
            try simp only [Act.put, List.setIfInBounds_toArray, List.set_cons_zero, List.set_cons_succ]
            refine late_ready (rs := [15]) (by kernel_rfl) (by simp) ?_
            refine lates_cons (o := { dst := some 43, op := Op.call { callee := Callee.builtin Builtin.append, args := #[Operand.tmp 36, Operand.tmp 42], argTypes := #[28, 28] }, type := 28, pos := "law.go:104", after := #[{ on := 8, ground := Ground.data }, { on := 14, ground := Ground.data }], guard := none }) rfl (fun K hK => ?_) (lates_nil)
            go_simp
            refine hK.out _ _ ?_ (fun hHeld => ?_)
            · repeat (first | with_reducible assumption | with_reducible refine s5_drew ?_ | with_reducible refine s5_alloc ?_)
            clear hK K
            try simp only [Act.put, List.setIfInBounds_toArray, List.set_cons_zero, List.set_cons_succ]
            refine late_ready (rs := [23]) (by kernel_rfl) (by simp) ?_
            refine lates_cons (o := { dst := some 51, op := Op.call { callee := Callee.builtin Builtin.append, args := #[Operand.tmp 44, Operand.tmp 50], argTypes := #[28, 28] }, type := 28, pos := "law.go:104", after := #[{ on := 16, ground := Ground.data }, { on := 22, ground := Ground.data }, { on := 15, ground := Ground.chain }], guard := none }) rfl (fun K hK => ?_) (lates_nil)
            go_simp
            refine hK.out _ _ ?_ (fun hHeld => ?_)
            · repeat (first | with_reducible assumption | with_reducible refine s5_drew ?_ | with_reducible refine s5_alloc ?_)
            clear hK K
            try simp only [Act.put, List.setIfInBounds_toArray, List.set_cons_zero, List.set_cons_succ]
            refine late_take (i := 24) (oi := { dst := some 52, op := Op.build 36 #[(0, Operand.tmp 35), (1, Operand.tmp 43), (2, Operand.tmp 51)], type := 36, pos := "law.go:104", after := #[{ on := 7, ground := Ground.data }, { on := 15, ground := Ground.data }, { on := 23, ground := Ground.data }], guard := none }) (v := ?_) rfl (by kernel_rfl) (by kernel_rfl) (by kernel_rfl) (by kernel_rfl) (fun _ _ _ h => h) (Or.inl ⟨by rfl, ?hy⟩) (by assumption) ?_
            case hy => (intro w hSw; (try dsimp only at hSw); go_simp; first | done | with_reducible rfl)
            try simp only [Act.put, List.setIfInBounds_toArray, List.set_cons_zero, List.set_cons_succ]
            refine late_ready (rs := [25]) (by kernel_rfl) (by simp) ?_
            refine lates_cons (o := { dst := some 53, op := Op.buildSlice 22 1 #[(0, Operand.tmp 52)], type := 22, pos := "law.go:104", after := #[{ on := 24, ground := Ground.data }], guard := none }) rfl (fun K hK => ?_) (lates_nil)
            go_simp
            refine hK.out _ _ ?_ (fun hHeld => ?_)
            · repeat (first | with_reducible assumption | with_reducible refine s5_drew ?_ | with_reducible refine s5_alloc ?_)
            clear hK K
            try simp only [Act.put, List.setIfInBounds_toArray, List.set_cons_zero, List.set_cons_succ]
            refine late_ready (rs := [26]) (by kernel_rfl) (by simp) ?_
            refine lates_cons (o := { dst := some 54, op := Op.call { callee := Callee.builtin Builtin.append, args := #[Operand.tmp 29, Operand.tmp 53], argTypes := #[22, 22] }, type := 22, pos := "law.go:104", after := #[{ on := 1, ground := Ground.data }, { on := 25, ground := Ground.data }, { on := 23, ground := Ground.chain }], guard := none }) rfl (fun K hK => ?_) (lates_nil)
            go_simp
            refine hK.out _ _ ?_ (fun hHeld => ?_)
            · repeat (first | with_reducible assumption | with_reducible refine s5_drew ?_ | with_reducible refine s5_alloc ?_)
            clear hK K
            try simp only [Act.put, List.setIfInBounds_toArray, List.set_cons_zero, List.set_cons_succ]
            refine late_take (i := 27) (oi := { dst := some 55, op := Op.fieldAddr 24 (Operand.tmp 3) 0, type := 0, pos := "law.go:104", after := #[{ on := 0, ground := Ground.phase }, { on := 1, ground := Ground.phase }, { on := 2, ground := Ground.phase }, { on := 3, ground := Ground.phase }, { on := 4, ground := Ground.phase }, { on := 5, ground := Ground.phase }, { on := 6, ground := Ground.phase }, { on := 7, ground := Ground.phase }, { on := 8, ground := Ground.phase }, { on := 9, ground := Ground.phase }, { on := 10, ground := Ground.phase }, { on := 11, ground := Ground.phase }, { on := 12, ground := Ground.phase }, { on := 13, ground := Ground.phase }, { on := 14, ground := Ground.phase }, { on := 15, ground := Ground.phase }, { on := 16, ground := Ground.phase }, { on := 17, ground := Ground.phase }, { on := 18, ground := Ground.phase }, { on := 19, ground := Ground.phase }, { on := 20, ground := Ground.phase }, { on := 21, ground := Ground.phase }, { on := 22, ground := Ground.phase }, { on := 23, ground := Ground.phase }, { on := 24, ground := Ground.phase }, { on := 25, ground := Ground.phase }, { on := 26, ground := Ground.phase }], guard := none }) (v := ?_) rfl (by kernel_rfl) (by kernel_rfl) (by kernel_rfl) (by kernel_rfl) (fun _ _ _ h => h) (Or.inl ⟨by rfl, ?hy⟩) (by assumption) ?_
            case hy => (intro w hSw; (try dsimp only at hSw); go_simp; first | done | with_reducible rfl)
            try simp only [Act.put, List.setIfInBounds_toArray, List.set_cons_zero, List.set_cons_succ]
            refine late_ready (rs := [28]) (by kernel_rfl) (by simp) ?_
            refine lates_last (o := { dst := none, op := Op.store 22 (Operand.tmp 55) (Operand.tmp 54), type := 0, pos := "law.go:104", after := #[{ on := 27, ground := Ground.data }, { on := 26, ground := Ground.data }, { on := 26, ground := Ground.chain }, { on := 0, ground := Ground.phase }, { on := 1, ground := Ground.phase }, { on := 2, ground := Ground.phase }, { on := 3, ground := Ground.phase }, { on := 4, ground := Ground.phase }, { on := 5, ground := Ground.phase }, { on := 6, ground := Ground.phase }, { on := 7, ground := Ground.phase }, { on := 8, ground := Ground.phase }, { on := 9, ground := Ground.phase }, { on := 10, ground := Ground.phase }, { on := 11, ground := Ground.phase }, { on := 12, ground := Ground.phase }, { on := 13, ground := Ground.phase }, { on := 14, ground := Ground.phase }, { on := 15, ground := Ground.phase }, { on := 16, ground := Ground.phase }, { on := 17, ground := Ground.phase }, { on := 18, ground := Ground.phase }, { on := 19, ground := Ground.phase }, { on := 20, ground := Ground.phase }, { on := 21, ground := Ground.phase }, { on := 22, ground := Ground.phase }, { on := 23, ground := Ground.phase }, { on := 24, ground := Ground.phase }, { on := 25, ground := Ground.phase }, { on := 26, ground := Ground.phase }], guard := none }) rfl (fun K hK => ?_)
            go_simp
            refine hK.out _ _ ?_
            clear hK K
            try simp only [Act.put, List.setIfInBounds_toArray, List.set_cons_zero, List.set_cons_succ]
            refine late_done (by kernel_rfl) ?_ _
            clear g1 g2 g3 g4 g5 g6 g7 a1 a2 a3 a4 a5 a6 a7 b1 b2 b3 b4 b5 b6 b7 hHeld
            obtain ⟨p', q', M', hk'⟩ := HR.out.2.1
            clear HR
            go_wp2
            go_roundg (n - (i + 1))
            case measure => omega
            case rel => exact ⟨_, i + 1, rfl, by omega, rfl, rfl, _, _, p', q', M', hk'⟩
        · go_simp
          refine hK.out _ _ ?_ (fun hHeld => ?_)
          · repeat (first | with_reducible assumption | with_reducible refine s5_drew ?_ | with_reducible refine s5_alloc ?_)
          clear hK K
          try simp only [Act.put, List.setIfInBounds_toArray, List.set_cons_zero, List.set_cons_succ]
          refine late_ready (rs := [8]) (by kernel_rfl) (by simp) ?_
          refine lates_cons (o := { dst := some 36, op := Op.buildSlice 28 0 #[], type := 28, pos := "law.go:104", after := #[], guard := none }) rfl (fun K hK => ?_) (lates_nil)
          go_simp
          refine hK.out _ _ ?_ (fun hHeld => ?_)
          · repeat (first | with_reducible assumption | with_reducible refine s5_drew ?_ | with_reducible refine s5_alloc ?_)
          clear hK K
          try simp only [Act.put, List.setIfInBounds_toArray, List.set_cons_zero, List.set_cons_succ]
          refine late_ready (rs := [15]) (by kernel_rfl) (by simp) ?_
          refine lates_cons (o := { dst := some 43, op := Op.call { callee := Callee.builtin Builtin.append, args := #[Operand.tmp 36, Operand.tmp 42], argTypes := #[28, 28] }, type := 28, pos := "law.go:104", after := #[{ on := 8, ground := Ground.data }, { on := 14, ground := Ground.data }], guard := none }) rfl (fun K hK => ?_) (lates_nil)
          go_simp
          refine hK.out _ _ ?_ (fun hHeld => ?_)
          · repeat (first | with_reducible assumption | with_reducible refine s5_drew ?_ | with_reducible refine s5_alloc ?_)
          clear hK K
          try simp only [Act.put, List.setIfInBounds_toArray, List.set_cons_zero, List.set_cons_succ]
          refine late_ready (rs := [23]) (by kernel_rfl) (by simp) ?_
          refine lates_cons (o := { dst := some 51, op := Op.call { callee := Callee.builtin Builtin.append, args := #[Operand.tmp 44, Operand.tmp 50], argTypes := #[28, 28] }, type := 28, pos := "law.go:104", after := #[{ on := 16, ground := Ground.data }, { on := 22, ground := Ground.data }, { on := 15, ground := Ground.chain }], guard := none }) rfl (fun K hK => ?_) (lates_nil)
          go_simp
          refine hK.out _ _ ?_ (fun hHeld => ?_)
          · repeat (first | with_reducible assumption | with_reducible refine s5_drew ?_ | with_reducible refine s5_alloc ?_)
          clear hK K
          try simp only [Act.put, List.setIfInBounds_toArray, List.set_cons_zero, List.set_cons_succ]
          refine late_take (i := 24) (oi := { dst := some 52, op := Op.build 36 #[(0, Operand.tmp 35), (1, Operand.tmp 43), (2, Operand.tmp 51)], type := 36, pos := "law.go:104", after := #[{ on := 7, ground := Ground.data }, { on := 15, ground := Ground.data }, { on := 23, ground := Ground.data }], guard := none }) (v := ?_) rfl (by kernel_rfl) (by kernel_rfl) (by kernel_rfl) (by kernel_rfl) (fun _ _ _ h => h) (Or.inl ⟨by rfl, ?hy⟩) (by assumption) ?_
          case hy => (intro w hSw; (try dsimp only at hSw); go_simp; first | done | with_reducible rfl)
          try simp only [Act.put, List.setIfInBounds_toArray, List.set_cons_zero, List.set_cons_succ]
          refine late_ready (rs := [25]) (by kernel_rfl) (by simp) ?_
          refine lates_cons (o := { dst := some 53, op := Op.buildSlice 22 1 #[(0, Operand.tmp 52)], type := 22, pos := "law.go:104", after := #[{ on := 24, ground := Ground.data }], guard := none }) rfl (fun K hK => ?_) (lates_nil)
          go_simp
          refine hK.out _ _ ?_ (fun hHeld => ?_)
          · repeat (first | with_reducible assumption | with_reducible refine s5_drew ?_ | with_reducible refine s5_alloc ?_)
          clear hK K
          try simp only [Act.put, List.setIfInBounds_toArray, List.set_cons_zero, List.set_cons_succ]
          refine late_ready (rs := [26]) (by kernel_rfl) (by simp) ?_
          refine lates_cons (o := { dst := some 54, op := Op.call { callee := Callee.builtin Builtin.append, args := #[Operand.tmp 29, Operand.tmp 53], argTypes := #[22, 22] }, type := 22, pos := "law.go:104", after := #[{ on := 1, ground := Ground.data }, { on := 25, ground := Ground.data }, { on := 23, ground := Ground.chain }], guard := none }) rfl (fun K hK => ?_) (lates_nil)
          go_simp
          refine hK.out _ _ ?_ (fun hHeld => ?_)
          · repeat (first | with_reducible assumption | with_reducible refine s5_drew ?_ | with_reducible refine s5_alloc ?_)
          clear hK K
          try simp only [Act.put, List.setIfInBounds_toArray, List.set_cons_zero, List.set_cons_succ]
          refine late_take (i := 27) (oi := { dst := some 55, op := Op.fieldAddr 24 (Operand.tmp 3) 0, type := 0, pos := "law.go:104", after := #[{ on := 0, ground := Ground.phase }, { on := 1, ground := Ground.phase }, { on := 2, ground := Ground.phase }, { on := 3, ground := Ground.phase }, { on := 4, ground := Ground.phase }, { on := 5, ground := Ground.phase }, { on := 6, ground := Ground.phase }, { on := 7, ground := Ground.phase }, { on := 8, ground := Ground.phase }, { on := 9, ground := Ground.phase }, { on := 10, ground := Ground.phase }, { on := 11, ground := Ground.phase }, { on := 12, ground := Ground.phase }, { on := 13, ground := Ground.phase }, { on := 14, ground := Ground.phase }, { on := 15, ground := Ground.phase }, { on := 16, ground := Ground.phase }, { on := 17, ground := Ground.phase }, { on := 18, ground := Ground.phase }, { on := 19, ground := Ground.phase }, { on := 20, ground := Ground.phase }, { on := 21, ground := Ground.phase }, { on := 22, ground := Ground.phase }, { on := 23, ground := Ground.phase }, { on := 24, ground := Ground.phase }, { on := 25, ground := Ground.phase }, { on := 26, ground := Ground.phase }], guard := none }) (v := ?_) rfl (by kernel_rfl) (by kernel_rfl) (by kernel_rfl) (by kernel_rfl) (fun _ _ _ h => h) (Or.inl ⟨by rfl, ?hy⟩) (by assumption) ?_
          case hy => (intro w hSw; (try dsimp only at hSw); go_simp; first | done | with_reducible rfl)
          try simp only [Act.put, List.setIfInBounds_toArray, List.set_cons_zero, List.set_cons_succ]
          refine late_ready (rs := [28]) (by kernel_rfl) (by simp) ?_
          refine lates_last (o := { dst := none, op := Op.store 22 (Operand.tmp 55) (Operand.tmp 54), type := 0, pos := "law.go:104", after := #[{ on := 27, ground := Ground.data }, { on := 26, ground := Ground.data }, { on := 26, ground := Ground.chain }, { on := 0, ground := Ground.phase }, { on := 1, ground := Ground.phase }, { on := 2, ground := Ground.phase }, { on := 3, ground := Ground.phase }, { on := 4, ground := Ground.phase }, { on := 5, ground := Ground.phase }, { on := 6, ground := Ground.phase }, { on := 7, ground := Ground.phase }, { on := 8, ground := Ground.phase }, { on := 9, ground := Ground.phase }, { on := 10, ground := Ground.phase }, { on := 11, ground := Ground.phase }, { on := 12, ground := Ground.phase }, { on := 13, ground := Ground.phase }, { on := 14, ground := Ground.phase }, { on := 15, ground := Ground.phase }, { on := 16, ground := Ground.phase }, { on := 17, ground := Ground.phase }, { on := 18, ground := Ground.phase }, { on := 19, ground := Ground.phase }, { on := 20, ground := Ground.phase }, { on := 21, ground := Ground.phase }, { on := 22, ground := Ground.phase }, { on := 23, ground := Ground.phase }, { on := 24, ground := Ground.phase }, { on := 25, ground := Ground.phase }, { on := 26, ground := Ground.phase }], guard := none }) rfl (fun K hK => ?_)
          go_simp
          refine hK.out _ _ ?_
          clear hK K
          try simp only [Act.put, List.setIfInBounds_toArray, List.set_cons_zero, List.set_cons_succ]
          refine late_done (by kernel_rfl) ?_ _
          clear g1 g2 g3 g4 g5 g6 g7 a1 a2 a3 a4 a5 a6 a7 b1 b2 b3 b4 b5 b6 b7 hHeld
          obtain ⟨p', q', M', hk'⟩ := HR.out.2.2
          clear HR
          go_wp2
          go_roundg (n - (i + 1))
          case measure => omega
          case rel => exact ⟨_, i + 1, rfl, by omega, rfl, rfl, _, _, p', q', M', hk'⟩
      · obtain rfl : i = n := by omega
        have HM : Hid (M.map keyV = L.map keyV) := by
          show M.map keyV = L.map keyV
          rw [hks.key, List.take_of_length_le (by rw [HF.out.2.2.2]; exact Nat.le_refl _)]
        clear hks hfz y0
        go_wp2_with (first
          | (go_at_call 11; with_reducible refine Calls.mono (all_any _ _ _ b off L _ _ (HV.out.below HK.out.sg.2) HF.out.2.1) ?_; rintro e w4 ⟨hr, hb⟩; obtain ⟨aA, nA, cA, bA, oA, rfl, hO⟩ := retI hr; have hzA := vz_small hO.v; have HA := hid hO; have HB4 := hid hb; clear hr hO hb x0 x1))
        go_loopg [6] nA (fun gk x6 wr => ∃ (w5 : World) (k : Nat), w5 = wr ∧ k ≤ nA ∧ gk = nA - k ∧ x6 = .int .i64 k ∧ Below w3.heap.size w3 w5 ∧ ∃ l, Oi w3.heap.size w5 aA nA cA bA oA l)
        case atStart => exact ⟨_, 0, rfl, Nat.zero_le _, rfl, rfl, HB4.out, _, HA.out⟩
        case round =>
          obtain ⟨w5, k, rfl, hk, rfl, rfl, hB5, l5, hO5⟩ := hrel
          have H5 := hid (And.intro hB5 hO5)
          clear hB5
          by_cases hkl : k < nA
          · have hklz : (k : Int) < (nA : Int) := by omega
            obtain ⟨rfl, ⟨u, hu⟩, hfu, hBb⟩ := oi_cell hO5 hkl
            clear hO5
            go_wp2
            go_roundg (nA - (k + 1))
            case measure => omega
            case rel => exact ⟨_, k + 1, rfl, hkl, rfl, by simp, H5.out.1.setCell hBb _, _, oi_set H5.out.2 hkl _⟩
          · obtain rfl : k = nA := by omega
            clear hO5
            have HK5 := hid (HK.out.below H5.out.1)
            obtain ⟨⟨x0, x1⟩, -⟩ := id HK5.out.sg
            clear HK HA HB4
            go_wp2_with (first
              | (go_at_call 17; with_reducible refine Calls.mono (uses1_any _ _ _ b off L _ _ (HV.out.below HK5.out.sg.2) HF.out.2.1) ?_; rintro e w6 ⟨hr, hb⟩; obtain ⟨gU, V, rfl, hO, -⟩ := retU1 hr; have HU := hid hO.fw; have HB6 := hid hb; clear hr hO hb x0 x1))
            go_loopg [8, 9] i (fun gk x8 x9 wr => ∃ (w7 : World) (j : Nat), w7 = wr ∧ j ≤ i ∧ gk = i - j ∧ x8 = .int .i64 j ∧ Below w5.heap.size w5 w7 ∧ Fw w5.heap.size w7 i gU V)
            case atStart => exact ⟨_, 0, rfl, Nat.zero_le _, rfl, rfl, HB6.out, HU.out⟩
            case round =>
              obtain ⟨w7, j, rfl, hj, rfl, rfl, hB7, hF7⟩ := hrel
              have H7 := hid (And.intro hB7 hF7)
              clear hB7
              by_cases hjl : j < i
              · have hjz : (j : Int) < (i : Int) := by omega
                obtain ⟨⟨va, vn, vc, vb, vo, vl⟩, hv⟩ : ∃ v, V[j]? = some v := ⟨_, List.getElem?_eq_getElem (by rw [fw_len hF7]; exact hjl)⟩
                have hvn : vn ≤ 9223372036854775807 := by
                  obtain ⟨l, hl⟩ := hF7.own _ (List.mem_of_getElem? hv)
                  exact vz_small hl.v
                have HJ := hid hv
                clear hF7 hv
                go_wp2
                go_loopg [9] vn (fun gk x9 wr => ∃ (w8 : World) (k : Nat), w8 = wr ∧ k ≤ vn ∧ gk = vn - k ∧ x9 = .int .i64 k ∧ Below w5.heap.size w5 w8 ∧ Fw w5.heap.size w8 i gU V)
                case atStart => exact ⟨_, 0, rfl, Nat.zero_le _, rfl, rfl, H7.out.1, H7.out.2⟩
                case round =>
                  obtain ⟨w8, k', rfl, hk', rfl, rfl, hB8, hF8⟩ := hrel
                  have H8 := hid (And.intro hB8 hF8)
                  have hd := fw_at hF8 HJ.out
                  dsimp only at hd
                  by_cases hkl' : k' < vn
                  · have hklz' : (k' : Int) < (vn : Int) := by omega
                    obtain ⟨l8, hl8⟩ := hF8.own _ (List.mem_of_getElem? HJ.out)
                    obtain ⟨hva, ⟨u, hu⟩, hfu, hBb⟩ := oi_cell hl8 hkl'
                    dsimp only at hva hu hfu hBb
                    rw [hva] at hd
                    clear hB8 hF8 hl8 hva
                    go_wp2
                    go_roundg (vn - (k' + 1))
                    case measure => omega
                    case rel => exact ⟨_, k' + 1, rfl, hkl', rfl, by simp, H8.out.1.setCell hBb _, H8.out.2.put HJ.out hkl' _⟩
                  · obtain rfl : k' = vn := by omega
                    clear hB8 hF8
                    go_wp2
                    go_roundg (i - (j + 1))
                    case measure => omega
                    case rel => exact ⟨_, j + 1, rfl, hjl, rfl, by simp, H8.out.1, H8.out.2⟩
              · obtain rfl : j = i := by omega
                have HK7 := hid (HK5.out.below H7.out.1)
                have hS : S4 w7 w.heap.size 0 (.slice ao j c) w.heap.size 1 (.int .i64 out) w2.heap.size 0 (.slice aP j cP) w2.heap.size 1 (.int .i64 out) w7 := ⟨⟨HK7.out.sg.1.1, HK7.out.sg.1.2, HK7.out.c0, HK7.out.c1⟩, Below.refl _ _⟩
                have HN := hid (And.intro (HV.out.below HK7.out.sg.2) HK7.out.nw.vn)
                clear hF7 HK5 HU HB6
                go_wp2
                go_region_held3 (fun w' => (w'.cell? ⟨w.heap.size, 0, none⟩ = some (.slice ao j c) ∧ w'.cell? ⟨w.heap.size, 1, none⟩ = some (.int .i64 out) ∧ w'.cell? ⟨w2.heap.size, 0, none⟩ = some (.slice aP j cP) ∧ w'.cell? ⟨w2.heap.size, 1, none⟩ = some (.int .i64 out)) ∧ Below w7.heap.size w7 w') (repeat (first | with_reducible assumption | with_reducible refine s4_drew ?_ | with_reducible refine s4_below ?_ ‹_›)) ((first
                  | (go_at_call 20; with_reducible refine Calls.mono (same_4 HN.out.1 HN.out.2 HM.out (by with_reducible assumption)) ?_; rintro e w9 ⟨rfl, hb⟩)
                  | (go_at_call 11; with_reducible refine Calls.mono (all_4 HN.out.1 HF.out.2.1 (by with_reducible assumption)) ?_; rintro e w10 ⟨hr, hb⟩; obtain ⟨a1, n1, c1, b1, o1, rfl, hO⟩ := retI hr; have HA := hid hO; clear hr hO)
                  | (go_at_call 12; with_reducible refine Calls.mono (refAll_4 HN.out.1 HF.out.2.1 (by with_reducible assumption)) ?_; rintro e w11 ⟨hr, hb⟩; obtain ⟨a2, n2, c2, b2, o2, rfl, hO⟩ := retI hr; have HA2 := hid (And.intro (HA.out.below hb) hO); clear hr hO HA)
                  | (go_at_call 10; with_reducible refine Calls.mono (equal_any _ _ _ _ _ _ _ _ _ _ _ _ _ HA2.out.1.v HA2.out.2.v) ?_; rintro e w12 ⟨rfl, hb⟩; rw [dec_self]; clear HA2)))
                rename_i hh
                have HH := hid hh
                clear hh hS
                go_wp2
                go_ret
                exact ⟨rfl, via (w := w) HK7.out.sg.2 HH.out.2⟩

theorem own : ownKnob Try.prog.godebug = none := by kernel_rfl

set_option maxHeartbeats 400000 in
set_option maxRecDepth 100000 in
theorem lifted (os : Os) (started : os.Started) (H : Type) (enc : TypeId × Value → H) :
    ReturnsInHanded {} Try.checked os 7 .any (Rows.orderKeepsSpec.pre6 enc Try.prog Try.f7 Rows.orderKeepsRow.domain false) (Rows.orderKeepsSpec.post enc Try.prog Try.f7 false true false false) := by
  refine returnsInHanded_of_change (C := Try.checked) own started (by kernel_rfl) Try.func7
    (ChangeSpec.witness6 (enc := enc) (C := Try.checked) false ⟨#[], #[.agg #[.slice none 0 0, .int .i64 0]], []⟩ 8 (by kernel_rfl) (by kernel_rfl) (by kernel_rfl) (by kernel_rfl)) ?_
  intro W base args ds gs before hval0 hW hcnd _
  have hval : ∀ (j : Nat) t v, Try.f7.params[j]? = some t → args[j]? = some v → Value.okWide Try.prog W .any base t v := hval0
  have hW' := hW
  obtain ⟨p, q, hA0, hV, rfl, hfz, hnd⟩ := hW
  have hA : DataW.TrodAll enc Try.prog W 0 (fun _ => true) true Try.f7.params.toList args.toList ds p := hA0
  rw [Try.params7] at hA hval
  obtain ⟨v0, vs0, d0, ds0, p0, q0, hargs, rfl, rfl, h0, r0⟩ := trodAll_cons hA
  obtain ⟨rfl, rfl, rfl⟩ := trodAll_nil r0
  obtain rfl : args = #[v0] := by cases args; simp_all
  obtain ⟨rfl, rfl⟩ := trodVars_none hV
  obtain ⟨ao0, n0, c0, b0, off0, L0, out0, rfl, hv0⟩ := open_graph (hval 0 24 v0 rfl rfl) h0
  clear hA0 hval0
  simp only [List.append_nil] at hW'
  have hlt : ∀ x ∈ p0, x.block < W.heap.size := fun x hx => by simpa using hW'.lt x (by simpa using hx)
  refine (walk ao0 n0 c0 b0 off0 L0 out0 W hv0).mono fun e W' ⟨he, hg⟩ => ?_
  subst he
  have t0 := Below.trod laidOut (by kernel_rfl) (of_decide_eq_true (by kernel_rfl)) h0 hg (fun x hx => hlt x hx)
  exact ⟨_, rfl, ⟨_, _, _, _, _, _, hW', (trodAll_cons_mk (shut_bool Try.underlying4 _) trodAll_mk0), (trodAll_cons_mk t0 trodAll_mk0), rfl, hg.frame _, fun h => by cases h⟩⟩

theorem over : Rows.orderKeepsRow.holds Try.pinned (OpenSpec.ofChange Rows.orderKeepsSpec) :=
  OpenClaim.holds_of_wide 7 Try.f7 rfl rfl rfl rfl rfl rfl rfl ⟨rfl, rfl, rfl, rfl, rfl⟩ rfl rfl rfl rfl rfl (by kernel_rfl) Try.func7 (by kernel_rfl)
    (of_decide_eq_true (by kernel_rfl)) (by unfold Func.isWrapper; first | (rw [if_pos (by decide +kernel)]; kernel_rfl) | (rw [if_neg (by decide +kernel)]; exact ⟨rfl, rfl⟩))
    (fun os started H enc _ => lifted os started H enc)

theorem proved : Rows.OrderKeepsSaid := over
#print axioms proved
end Go.Proofs.Ytccbgekijnkhpaa.orderKeeps
