/- For every filter: what is handed in stays; no condition. -/
import Derived.Test.YtleclkjinkbebaaRows
import Derived.WalkKit
import Derived.ProofKit
import Derived.OpenShut
import Derived.Test.YtleclkjinkbebaaOpen
import Derived.Test.YtleclkjinkbebaaSameG
import Derived.Test.YtleclkjinkbebaaLate
namespace Go.Proofs.Ytleclkjinkbebaa.nodeKeeps
open Go.ChangeShapes Go.WideShapes Go.ChangeAt Go.RowKit Num
set_option linter.unusedVariables false
set_option linter.unusedSimpArgs false

/-- four cells stand -/
abbrev S4 (w1 : World) (b1 o1 : Nat) (v1 : Value) (b2 o2 : Nat) (v2 : Value) (b3 o3 : Nat) (v3 : Value) (b4 o4 : Nat) (v4 : Value) (w' : World) : Prop := (w'.cell? ⟨b1, o1, none⟩ = some v1 ∧ w'.cell? ⟨b2, o2, none⟩ = some v2 ∧ w'.cell? ⟨b3, o3, none⟩ = some v3 ∧ w'.cell? ⟨b4, o4, none⟩ = some v4) ∧ Below w1.heap.size w1 w'
attribute [local go_sem ↓] run_app
attribute [local go_sem] lenV_slice
set_option maxRecDepth 100000 in
set_option maxHeartbeats 8000000 in
theorem walk (ao : Option Addr) (n c b off : Nat) (L : List Nv) (out : Int) (w : World) (h : Vn w ao n c b off L) :
    Calls Try.prog 5 #[.agg #[.slice ao n c, .int .i64 out]] w fun e w' => e = .returned (.bool true) ∧ Below w.heap.size w w' := by
  have hl := vn_len h
  have hs0 := sg_new w ao n c out 24
  have HS := hid hs0
  have HV := hid h
  clear h hs0
  rcases hfew : fewB L 300 with _ | _
  · have HF := hid hfew
    clear hfew
    go_enter Try.func5, Try.ntmps5
    go_wp2_with (first
      | (go_at_call 6; with_reducible refine Calls.mono (awake_any _) ?_; rintro e w1 ⟨rfl, hb⟩; replace HS := hid (sg_below HS.out hb); obtain ⟨⟨x0, x1⟩, -⟩ := id HS.out; clear hb)
      | (go_at_call 7; with_reducible refine Calls.mono (few_any _ _ _ b off L _ 300 _ (HV.out.below HS.out.2) (by decide)) ?_; rintro e w2 ⟨rfl, hb⟩; replace HS := hid (sg_below HS.out hb); rw [HF.out]; clear hb x0 x1))
    go_ret
    exact ⟨rfl, HS.out.2⟩
  · obtain ⟨hn, hf, hff⟩ := few_of hl hfew (by decide)
    have HP : Hid (∀ v, v ∈ L → v.np ≤ 1000) := hid fun v hv => Nat.le_trans (hff v hv).2 (by decide)
    clear hff
    have HF := hid (And.intro hfew (And.intro hf (And.intro (few_l hl) hl)))
    clear hfew hf
    go_enter Try.func5, Try.ntmps5
    go_wp2_with (first
      | (go_at_call 6; with_reducible refine Calls.mono (awake_any _) ?_; rintro e w1 ⟨rfl, hb⟩; replace HS := hid (sg_below HS.out hb); obtain ⟨⟨x0, x1⟩, -⟩ := id HS.out; clear hb)
      | (go_at_call 7; with_reducible refine Calls.mono (few_any _ _ _ b off L _ 300 _ (HV.out.below HS.out.2) (by decide)) ?_; rintro e w2 ⟨rfl, hb⟩; replace HS := hid (sg_below HS.out hb); rw [HF.out.1]; clear x0 x1; obtain ⟨⟨x0, x1⟩, -⟩ := id HS.out; clear hb))
    go_loopg [4] n (fun gk x4 wr => ∃ (w3 : World) (i : Nat), w3 = wr ∧ i ≤ n ∧ gk = n - i ∧ x4 = .int .i64 i ∧ ∃ aP cP p q M, Ks w w2 ao n c out L i aP cP p q M w3)
    case atStart =>
      clear x0 x1
      refine ⟨_, 0, rfl, Nat.zero_le _, rfl, rfl, none, 0, 0, 0, [], ?_⟩
      have hb : Below w2.heap.size w2 (w2.alloc (.cells #[.slice none 0 0, .int .i64 out] 24)) := (Below.refl _ _).alloc (Nat.le_refl _) _
      exact ⟨sg_below HS.out hb, hb, World.cell?_alloc_new w2 _ _ 0, World.cell?_alloc_new w2 _ _ 1, World.frozen?_alloc_new w2 _ _ 0, nw_nil _ _ _, rfl, World.block_lt_of_cell? _ _ HS.out.1.1⟩
    case round =>
      obtain ⟨w3, i, rfl, hi, rfl, rfl, aP, cP, p, q, M, hks⟩ := hrel
      have HK := hid hks
      obtain ⟨⟨x0, x1⟩, -⟩ := id hks.sg
      have y0 := hks.c0
      have hfz := hks.fz
      by_cases hlt : i < n
      · have hltz : (i : Int) < (n : Int) := by omega
        obtain ⟨v, hv⟩ : ∃ v, L[i]? = some v := ⟨_, List.getElem?_eq_getElem (by rw [HF.out.2.2.2]; exact hlt)⟩
        obtain ⟨rfl, ⟨f0, f1, f2⟩, hvi, hvp⟩ := vn_at (HV.out.below hks.sg.2) hv
        have hni := HF.out.2.1.i v (List.mem_of_getElem? hv)
        have hnp := HP.out v (List.mem_of_getElem? hv)
        have hS : S5 w.heap.size w2.heap.size b (off + i * 3) (.slice (some ⟨b, off, none⟩) n c) (.slice aP i cP) (.int .i64 v.op) (.slice v.ai v.ni v.ci) (.slice v.ap v.np v.cp) w3 := ⟨x0, y0, f0, f1, f2⟩
        have d1 : Below w3.heap.size w3 (w3.alloc (.cells #[] 3)).drew := ((Below.refl _ _).alloc (Nat.le_refl _) _).drew
        have d2 : Below w3.heap.size w3 ((w3.alloc (.cells #[] 3)).alloc (.cells #[] 3)).drew := (alloc_low ((Below.refl _ _).alloc (Nat.le_refl _) _) _).drew
        obtain ⟨⟨g1, g2, g3, g4⟩, ⟨g5, g6, g7⟩, hkg⟩ := ks_round hks HV.out hv (by omega) hni hnp ((w3.alloc (.cells #[] 3)).drew) w3.heap.size d1 (((apW Try.prog #[29, 29] 29 (w3.alloc (.cells #[] 3)).drew (.slice (some ⟨w3.heap.size, 0, none⟩) 0 0) (.slice v.ai v.ni v.ci)).alloc (.cells #[] 3))) (apW Try.prog #[29, 29] 29 (w3.alloc (.cells #[] 3)).drew (.slice (some ⟨w3.heap.size, 0, none⟩) 0 0) (.slice v.ai v.ni v.ci)).heap.size ((Below.refl _ _).alloc (Nat.le_refl _) _)
        obtain ⟨⟨a1, a2, a3, a4⟩, ⟨a5, a6, a7⟩, hka⟩ := ks_round hks HV.out hv (by omega) hni hnp (((w3.alloc (.cells #[] 3)).alloc (.cells #[] 3)).drew) w3.heap.size d2 ((apW Try.prog #[29, 29] 29 ((w3.alloc (.cells #[] 3)).alloc (.cells #[] 3)).drew (.slice (some ⟨w3.heap.size, 0, none⟩) 0 0) (.slice v.ai v.ni v.ci))) (w3.heap.size + 1) (Below.refl _ _)
        obtain ⟨⟨b1, b2, b3, b4⟩, ⟨b5, b6, b7⟩, hkb⟩ := ks_round hks HV.out hv (by omega) hni hnp (((w3.alloc (.cells #[] 3)).alloc (.cells #[] 3)).drew) (w3.heap.size + 1) d2 ((apW Try.prog #[29, 29] 29 ((w3.alloc (.cells #[] 3)).alloc (.cells #[] 3)).drew (.slice (some ⟨(w3.heap.size + 1), 0, none⟩) 0 0) (.slice v.ai v.ni v.ci))) w3.heap.size (Below.refl _ _)
        have HR := hid (And.intro hkg (And.intro hka hkb))
        clear hks hvi hvp x0 x1 y0 f0 f1 f2 hkg hka hkb d1 d2
        go_wp2
        refine wp_region_late (S := (fun w' => (w'.cell? ⟨w.heap.size, 0, none⟩ = some (.slice (some ⟨b, off, none⟩) n c) ∧ w'.cell? ⟨w2.heap.size, 0, none⟩ = some (.slice aP i cP) ∧ w'.cell? ⟨b, off + i * 3, none⟩ = some (.int .i64 v.op) ∧ w'.cell? ⟨b, off + i * 3 + 1, none⟩ = some (.slice v.ai v.ni v.ci) ∧ w'.cell? ⟨b, off + i * 3 + 2, none⟩ = some (.slice v.ap v.np v.cp)))) 28 (by kernel_rfl) ?_ (fun hHeld => ?_)
        · repeat (first | with_reducible assumption | with_reducible refine s5_drew ?_ | with_reducible refine s5_alloc ?_)
        refine late_take (i := 0) (oi := { dst := some 23, op := Op.fieldAddr 24 (Operand.tmp 3) 0, type := 0, pos := "law.go:85", after := #[], guard := none }) (v := ?_) rfl (by kernel_rfl) (by kernel_rfl) (by kernel_rfl) (by kernel_rfl) (fun _ _ _ h => h) (Or.inl ⟨by rfl, ?hy⟩) (by assumption) ?_
        case hy => (intro w hSw; (try dsimp only at hSw); go_simp; first | done | with_reducible rfl)
        try simp only [Act.put, List.setIfInBounds_toArray, List.set_cons_zero, List.set_cons_succ]
        refine late_take (i := 1) (oi := { dst := some 24, op := Op.load 22 (Operand.tmp 23), type := 22, pos := "law.go:85", after := #[{ on := 0, ground := Ground.data }], guard := none }) (v := ?_) rfl (by kernel_rfl) (by kernel_rfl) (by kernel_rfl) (by kernel_rfl) (fun _ _ _ h => h) (Or.inl ⟨by rfl, ?hy⟩) (by assumption) ?_
        case hy => (intro w hSw; (try dsimp only at hSw); go_simp; first | done | with_reducible rfl)
        try simp only [Act.put, List.setIfInBounds_toArray, List.set_cons_zero, List.set_cons_succ]
        refine late_take (i := 2) (oi := { dst := some 25, op := Op.fieldAddr 24 (Operand.tmp 1) 0, type := 0, pos := "law.go:85", after := #[], guard := none }) (v := ?_) rfl (by kernel_rfl) (by kernel_rfl) (by kernel_rfl) (by kernel_rfl) (fun _ _ _ h => h) (Or.inl ⟨by rfl, ?hy⟩) (by assumption) ?_
        case hy => (intro w hSw; (try dsimp only at hSw); go_simp; first | done | with_reducible rfl)
        try simp only [Act.put, List.setIfInBounds_toArray, List.set_cons_zero, List.set_cons_succ]
        refine late_take (i := 3) (oi := { dst := some 26, op := Op.load 22 (Operand.tmp 25), type := 22, pos := "law.go:85", after := #[{ on := 2, ground := Ground.data }], guard := none }) (v := ?_) rfl (by kernel_rfl) (by kernel_rfl) (by kernel_rfl) (by kernel_rfl) (fun _ _ _ h => h) (Or.inl ⟨by rfl, ?hy⟩) (by assumption) ?_
        case hy => (intro w hSw; (try dsimp only at hSw); go_simp; first | done | with_reducible rfl)
        try simp only [Act.put, List.setIfInBounds_toArray, List.set_cons_zero, List.set_cons_succ]
        refine late_take (i := 4) (oi := { dst := some 27, op := Op.move (Operand.tmp 4), type := 3, pos := "law.go:85", after := #[], guard := none }) (v := ?_) rfl (by kernel_rfl) (by kernel_rfl) (by kernel_rfl) (by kernel_rfl) (fun _ _ _ h => h) (Or.inl ⟨by rfl, ?hy⟩) (by assumption) ?_
        case hy => (intro w hSw; (try dsimp only at hSw); go_simp; first | done | with_reducible rfl)
        try simp only [Act.put, List.setIfInBounds_toArray, List.set_cons_zero, List.set_cons_succ]
        refine late_take (i := 5) (oi := { dst := some 28, op := Op.indexAddr 22 (Operand.tmp 26) (Operand.tmp 27), type := 0, pos := "law.go:85", after := #[{ on := 3, ground := Ground.data }, { on := 4, ground := Ground.data }], guard := none }) (v := ?_) rfl (by kernel_rfl) (by kernel_rfl) (by kernel_rfl) (by kernel_rfl) (fun _ _ _ h => h) (Or.inl ⟨by rfl, ?hy⟩) (by assumption) ?_
        case hy => (intro w hSw; (try dsimp only at hSw); go_simp; first | done | with_reducible rfl)
        try simp only [Act.put, List.setIfInBounds_toArray, List.set_cons_zero, List.set_cons_succ]
        refine late_take (i := 6) (oi := { dst := some 29, op := Op.fieldAddr 31 (Operand.tmp 28) 0, type := 0, pos := "law.go:85", after := #[{ on := 5, ground := Ground.data }], guard := none }) (v := ?_) rfl (by kernel_rfl) (by kernel_rfl) (by kernel_rfl) (by kernel_rfl) (fun _ _ _ h => h) (Or.inl ⟨by rfl, ?hy⟩) (by assumption) ?_
        case hy => (intro w hSw; (try dsimp only at hSw); go_simp; first | done | with_reducible rfl)
        try simp only [Act.put, List.setIfInBounds_toArray, List.set_cons_zero, List.set_cons_succ]
        refine late_take (i := 7) (oi := { dst := some 30, op := Op.load 3 (Operand.tmp 29), type := 3, pos := "law.go:85", after := #[{ on := 6, ground := Ground.data }], guard := none }) (v := ?_) rfl (by kernel_rfl) (by kernel_rfl) (by kernel_rfl) (by kernel_rfl) (fun _ _ _ h => h) (Or.inl ⟨by rfl, ?hy⟩) (by assumption) ?_
        case hy => (intro w hSw; (try dsimp only at hSw); go_simp; first | done | with_reducible rfl)
        try simp only [Act.put, List.setIfInBounds_toArray, List.set_cons_zero, List.set_cons_succ]
        refine late_take (i := 9) (oi := { dst := some 32, op := Op.fieldAddr 24 (Operand.tmp 1) 0, type := 0, pos := "law.go:85", after := #[], guard := none }) (v := ?_) rfl (by kernel_rfl) (by kernel_rfl) (by kernel_rfl) (by kernel_rfl) (fun _ _ _ h => h) (Or.inl ⟨by rfl, ?hy⟩) (by assumption) ?_
        case hy => (intro w hSw; (try dsimp only at hSw); go_simp; first | done | with_reducible rfl)
        try simp only [Act.put, List.setIfInBounds_toArray, List.set_cons_zero, List.set_cons_succ]
        refine late_take (i := 10) (oi := { dst := some 33, op := Op.load 22 (Operand.tmp 32), type := 22, pos := "law.go:85", after := #[{ on := 9, ground := Ground.data }], guard := none }) (v := ?_) rfl (by kernel_rfl) (by kernel_rfl) (by kernel_rfl) (by kernel_rfl) (fun _ _ _ h => h) (Or.inl ⟨by rfl, ?hy⟩) (by assumption) ?_
        case hy => (intro w hSw; (try dsimp only at hSw); go_simp; first | done | with_reducible rfl)
        try simp only [Act.put, List.setIfInBounds_toArray, List.set_cons_zero, List.set_cons_succ]
        refine late_take (i := 11) (oi := { dst := some 34, op := Op.move (Operand.tmp 4), type := 3, pos := "law.go:85", after := #[], guard := none }) (v := ?_) rfl (by kernel_rfl) (by kernel_rfl) (by kernel_rfl) (by kernel_rfl) (fun _ _ _ h => h) (Or.inl ⟨by rfl, ?hy⟩) (by assumption) ?_
        case hy => (intro w hSw; (try dsimp only at hSw); go_simp; first | done | with_reducible rfl)
        try simp only [Act.put, List.setIfInBounds_toArray, List.set_cons_zero, List.set_cons_succ]
        refine late_take (i := 12) (oi := { dst := some 35, op := Op.indexAddr 22 (Operand.tmp 33) (Operand.tmp 34), type := 0, pos := "law.go:85", after := #[{ on := 10, ground := Ground.data }, { on := 11, ground := Ground.data }], guard := none }) (v := ?_) rfl (by kernel_rfl) (by kernel_rfl) (by kernel_rfl) (by kernel_rfl) (fun _ _ _ h => h) (Or.inl ⟨by rfl, ?hy⟩) (by assumption) ?_
        case hy => (intro w hSw; (try dsimp only at hSw); go_simp; first | done | with_reducible rfl)
        try simp only [Act.put, List.setIfInBounds_toArray, List.set_cons_zero, List.set_cons_succ]
        refine late_take (i := 13) (oi := { dst := some 36, op := Op.fieldAddr 31 (Operand.tmp 35) 1, type := 0, pos := "law.go:85", after := #[{ on := 12, ground := Ground.data }], guard := none }) (v := ?_) rfl (by kernel_rfl) (by kernel_rfl) (by kernel_rfl) (by kernel_rfl) (fun _ _ _ h => h) (Or.inl ⟨by rfl, ?hy⟩) (by assumption) ?_
        case hy => (intro w hSw; (try dsimp only at hSw); go_simp; first | done | with_reducible rfl)
        try simp only [Act.put, List.setIfInBounds_toArray, List.set_cons_zero, List.set_cons_succ]
        refine late_take (i := 14) (oi := { dst := some 37, op := Op.load 29 (Operand.tmp 36), type := 29, pos := "law.go:85", after := #[{ on := 13, ground := Ground.data }], guard := none }) (v := ?_) rfl (by kernel_rfl) (by kernel_rfl) (by kernel_rfl) (by kernel_rfl) (fun _ _ _ h => h) (Or.inl ⟨by rfl, ?hy⟩) (by assumption) ?_
        case hy => (intro w hSw; (try dsimp only at hSw); go_simp; first | done | with_reducible rfl)
        try simp only [Act.put, List.setIfInBounds_toArray, List.set_cons_zero, List.set_cons_succ]
        refine late_take (i := 17) (oi := { dst := some 40, op := Op.fieldAddr 24 (Operand.tmp 1) 0, type := 0, pos := "law.go:85", after := #[], guard := none }) (v := ?_) rfl (by kernel_rfl) (by kernel_rfl) (by kernel_rfl) (by kernel_rfl) (fun _ _ _ h => h) (Or.inl ⟨by rfl, ?hy⟩) (by assumption) ?_
        case hy => (intro w hSw; (try dsimp only at hSw); go_simp; first | done | with_reducible rfl)
        try simp only [Act.put, List.setIfInBounds_toArray, List.set_cons_zero, List.set_cons_succ]
        refine late_take (i := 18) (oi := { dst := some 41, op := Op.load 22 (Operand.tmp 40), type := 22, pos := "law.go:85", after := #[{ on := 17, ground := Ground.data }], guard := none }) (v := ?_) rfl (by kernel_rfl) (by kernel_rfl) (by kernel_rfl) (by kernel_rfl) (fun _ _ _ h => h) (Or.inl ⟨by rfl, ?hy⟩) (by assumption) ?_
        case hy => (intro w hSw; (try dsimp only at hSw); go_simp; first | done | with_reducible rfl)
        try simp only [Act.put, List.setIfInBounds_toArray, List.set_cons_zero, List.set_cons_succ]
        refine late_take (i := 19) (oi := { dst := some 42, op := Op.move (Operand.tmp 4), type := 3, pos := "law.go:85", after := #[], guard := none }) (v := ?_) rfl (by kernel_rfl) (by kernel_rfl) (by kernel_rfl) (by kernel_rfl) (fun _ _ _ h => h) (Or.inl ⟨by rfl, ?hy⟩) (by assumption) ?_
        case hy => (intro w hSw; (try dsimp only at hSw); go_simp; first | done | with_reducible rfl)
        try simp only [Act.put, List.setIfInBounds_toArray, List.set_cons_zero, List.set_cons_succ]
        refine late_take (i := 20) (oi := { dst := some 43, op := Op.indexAddr 22 (Operand.tmp 41) (Operand.tmp 42), type := 0, pos := "law.go:85", after := #[{ on := 18, ground := Ground.data }, { on := 19, ground := Ground.data }], guard := none }) (v := ?_) rfl (by kernel_rfl) (by kernel_rfl) (by kernel_rfl) (by kernel_rfl) (fun _ _ _ h => h) (Or.inl ⟨by rfl, ?hy⟩) (by assumption) ?_
        case hy => (intro w hSw; (try dsimp only at hSw); go_simp; first | done | with_reducible rfl)
        try simp only [Act.put, List.setIfInBounds_toArray, List.set_cons_zero, List.set_cons_succ]
        refine late_take (i := 21) (oi := { dst := some 44, op := Op.fieldAddr 31 (Operand.tmp 43) 2, type := 0, pos := "law.go:85", after := #[{ on := 20, ground := Ground.data }], guard := none }) (v := ?_) rfl (by kernel_rfl) (by kernel_rfl) (by kernel_rfl) (by kernel_rfl) (fun _ _ _ h => h) (Or.inl ⟨by rfl, ?hy⟩) (by assumption) ?_
        case hy => (intro w hSw; (try dsimp only at hSw); go_simp; first | done | with_reducible rfl)
        try simp only [Act.put, List.setIfInBounds_toArray, List.set_cons_zero, List.set_cons_succ]
        refine late_take (i := 22) (oi := { dst := some 45, op := Op.load 29 (Operand.tmp 44), type := 29, pos := "law.go:85", after := #[{ on := 21, ground := Ground.data }], guard := none }) (v := ?_) rfl (by kernel_rfl) (by kernel_rfl) (by kernel_rfl) (by kernel_rfl) (fun _ _ _ h => h) (Or.inl ⟨by rfl, ?hy⟩) (by assumption) ?_
        case hy => (intro w hSw; (try dsimp only at hSw); go_simp; first | done | with_reducible rfl)
        try simp only [Act.put, List.setIfInBounds_toArray, List.set_cons_zero, List.set_cons_succ]
        refine late_ready (rs := [8, 16]) (by kernel_rfl) (by simp) ?_
        refine lates_cons (o := { dst := some 31, op := Op.buildSlice 29 0 #[], type := 29, pos := "law.go:85", after := #[], guard := none }) rfl (fun K hK => ?_) (lates_cons (o := { dst := some 39, op := Op.buildSlice 29 0 #[], type := 29, pos := "law.go:85", after := #[], guard := none }) rfl (fun K hK => ?_) (lates_nil))
        · go_simp
          refine hK.out _ _ ?_ (fun hHeld => ?_)
          · repeat (first | with_reducible assumption | with_reducible refine s5_drew ?_ | with_reducible refine s5_alloc ?_)
          clear hK K
          try simp only [Act.put, List.setIfInBounds_toArray, List.set_cons_zero, List.set_cons_succ]
          refine late_ready (rs := [15, 16]) (by kernel_rfl) (by simp) ?_
          refine lates_cons (o := { dst := some 38, op := Op.call { callee := Callee.builtin Builtin.append, args := #[Operand.tmp 31, Operand.tmp 37], argTypes := #[29, 29] }, type := 29, pos := "law.go:85", after := #[{ on := 8, ground := Ground.data }, { on := 14, ground := Ground.data }], guard := none }) rfl (fun K hK => ?_) (lates_cons (o := { dst := some 39, op := Op.buildSlice 29 0 #[], type := 29, pos := "law.go:85", after := #[], guard := none }) rfl (fun K hK => ?_) (lates_nil))
          · go_simp
            refine hK.out _ _ ?_ (fun hHeld => ?_)
            · repeat (first | with_reducible assumption | with_reducible refine s5_drew ?_ | with_reducible refine s5_alloc ?_)
            clear hK K
            try simp only [Act.put, List.setIfInBounds_toArray, List.set_cons_zero, List.set_cons_succ]
            refine late_ready (rs := [16]) (by kernel_rfl) (by simp) ?_
            refine lates_cons (o := { dst := some 39, op := Op.buildSlice 29 0 #[], type := 29, pos := "law.go:85", after := #[], guard := none }) rfl (fun K hK => ?_) (lates_nil)
            go_simp
            refine hK.out _ _ ?_ (fun hHeld => ?_)
            · repeat (first | with_reducible assumption | with_reducible refine s5_drew ?_ | with_reducible refine s5_alloc ?_)
            clear hK K
            try simp only [Act.put, List.setIfInBounds_toArray, List.set_cons_zero, List.set_cons_succ]
            refine late_ready (rs := [23]) (by kernel_rfl) (by simp) ?_
            refine lates_cons (o := { dst := some 46, op := Op.call { callee := Callee.builtin Builtin.append, args := #[Operand.tmp 39, Operand.tmp 45], argTypes := #[29, 29] }, type := 29, pos := "law.go:85", after := #[{ on := 16, ground := Ground.data }, { on := 22, ground := Ground.data }, { on := 15, ground := Ground.chain }], guard := none }) rfl (fun K hK => ?_) (lates_nil)
            go_simp
            refine hK.out _ _ ?_ (fun hHeld => ?_)
            · repeat (first | with_reducible assumption | with_reducible refine s5_drew ?_ | with_reducible refine s5_alloc ?_)
            clear hK K
            try simp only [Act.put, List.setIfInBounds_toArray, List.set_cons_zero, List.set_cons_succ]
            refine late_take (i := 24) (oi := { dst := some 47, op := Op.build 31 #[(0, Operand.tmp 30), (1, Operand.tmp 38), (2, Operand.tmp 46)], type := 31, pos := "law.go:85", after := #[{ on := 7, ground := Ground.data }, { on := 15, ground := Ground.data }, { on := 23, ground := Ground.data }], guard := none }) (v := ?_) rfl (by kernel_rfl) (by kernel_rfl) (by kernel_rfl) (by kernel_rfl) (fun _ _ _ h => h) (Or.inl ⟨by rfl, ?hy⟩) (by assumption) ?_
            case hy => (intro w hSw; (try dsimp only at hSw); go_simp; first | done | with_reducible rfl)
            try simp only [Act.put, List.setIfInBounds_toArray, List.set_cons_zero, List.set_cons_succ]
            refine late_ready (rs := [25]) (by kernel_rfl) (by simp) ?_
            refine lates_cons (o := { dst := some 48, op := Op.buildSlice 22 1 #[(0, Operand.tmp 47)], type := 22, pos := "law.go:85", after := #[{ on := 24, ground := Ground.data }], guard := none }) rfl (fun K hK => ?_) (lates_nil)
            go_simp
            refine hK.out _ _ ?_ (fun hHeld => ?_)
            · repeat (first | with_reducible assumption | with_reducible refine s5_drew ?_ | with_reducible refine s5_alloc ?_)
            clear hK K
            try simp only [Act.put, List.setIfInBounds_toArray, List.set_cons_zero, List.set_cons_succ]
            refine late_ready (rs := [26]) (by kernel_rfl) (by simp) ?_
            refine lates_cons (o := { dst := some 49, op := Op.call { callee := Callee.builtin Builtin.append, args := #[Operand.tmp 24, Operand.tmp 48], argTypes := #[22, 22] }, type := 22, pos := "law.go:85", after := #[{ on := 1, ground := Ground.data }, { on := 25, ground := Ground.data }, { on := 23, ground := Ground.chain }], guard := none }) rfl (fun K hK => ?_) (lates_nil)
            go_simp
            refine hK.out _ _ ?_ (fun hHeld => ?_)
            · repeat (first | with_reducible assumption | with_reducible refine s5_drew ?_ | with_reducible refine s5_alloc ?_)
            clear hK K
            try simp only [Act.put, List.setIfInBounds_toArray, List.set_cons_zero, List.set_cons_succ]
            refine late_take (i := 27) (oi := { dst := some 50, op := Op.fieldAddr 24 (Operand.tmp 3) 0, type := 0, pos := "law.go:85", after := #[{ on := 0, ground := Ground.phase }, { on := 1, ground := Ground.phase }, { on := 2, ground := Ground.phase }, { on := 3, ground := Ground.phase }, { on := 4, ground := Ground.phase }, { on := 5, ground := Ground.phase }, { on := 6, ground := Ground.phase }, { on := 7, ground := Ground.phase }, { on := 8, ground := Ground.phase }, { on := 9, ground := Ground.phase }, { on := 10, ground := Ground.phase }, { on := 11, ground := Ground.phase }, { on := 12, ground := Ground.phase }, { on := 13, ground := Ground.phase }, { on := 14, ground := Ground.phase }, { on := 15, ground := Ground.phase }, { on := 16, ground := Ground.phase }, { on := 17, ground := Ground.phase }, { on := 18, ground := Ground.phase }, { on := 19, ground := Ground.phase }, { on := 20, ground := Ground.phase }, { on := 21, ground := Ground.phase }, { on := 22, ground := Ground.phase }, { on := 23, ground := Ground.phase }, { on := 24, ground := Ground.phase }, { on := 25, ground := Ground.phase }, { on := 26, ground := Ground.phase }], guard := none }) (v := ?_) rfl (by kernel_rfl) (by kernel_rfl) (by kernel_rfl) (by kernel_rfl) (fun _ _ _ h => h) (Or.inl ⟨by rfl, ?hy⟩) (by assumption) ?_
            case hy => (intro w hSw; (try dsimp only at hSw); go_simp; first | done | with_reducible rfl)
            try simp only [Act.put, List.setIfInBounds_toArray, List.set_cons_zero, List.set_cons_succ]
            refine late_ready (rs := [28]) (by kernel_rfl) (by simp) ?_
            refine lates_last (o := { dst := none, op := Op.store 22 (Operand.tmp 50) (Operand.tmp 49), type := 0, pos := "law.go:85", after := #[{ on := 27, ground := Ground.data }, { on := 26, ground := Ground.data }, { on := 26, ground := Ground.chain }, { on := 0, ground := Ground.phase }, { on := 1, ground := Ground.phase }, { on := 2, ground := Ground.phase }, { on := 3, ground := Ground.phase }, { on := 4, ground := Ground.phase }, { on := 5, ground := Ground.phase }, { on := 6, ground := Ground.phase }, { on := 7, ground := Ground.phase }, { on := 8, ground := Ground.phase }, { on := 9, ground := Ground.phase }, { on := 10, ground := Ground.phase }, { on := 11, ground := Ground.phase }, { on := 12, ground := Ground.phase }, { on := 13, ground := Ground.phase }, { on := 14, ground := Ground.phase }, { on := 15, ground := Ground.phase }, { on := 16, ground := Ground.phase }, { on := 17, ground := Ground.phase }, { on := 18, ground := Ground.phase }, { on := 19, ground := Ground.phase }, { on := 20, ground := Ground.phase }, { on := 21, ground := Ground.phase }, { on := 22, ground := Ground.phase }, { on := 23, ground := Ground.phase }, { on := 24, ground := Ground.phase }, { on := 25, ground := Ground.phase }, { on := 26, ground := Ground.phase }], guard := none }) rfl (fun K hK => ?_)
            go_simp
            refine hK.out _ _ ?_
            clear hK K
            try simp only [Act.put, List.setIfInBounds_toArray, List.set_cons_zero, List.set_cons_succ]
            refine late_done (by kernel_rfl) ?_ _
            clear g1 g2 g3 g4 g5 g6 g7 a1 a2 a3 a4 a5 a6 a7 b1 b2 b3 b4 b5 b6 b7 hHeld
            obtain ⟨p', q', M', hk'⟩ := HR.out.1
            clear HR
            go_wp2
            go_roundg (n - (i + 1))
            case measure => omega
            case rel => exact ⟨_, i + 1, rfl, by omega, rfl, rfl, _, _, p', q', M', hk'⟩
          · go_simp
            refine hK.out _ _ ?_ (fun hHeld => ?_)
            · repeat (first | with_reducible assumption | with_reducible refine s5_drew ?_ | with_reducible refine s5_alloc ?_)
            clear hK K
            try simp only [Act.put, List.setIfInBounds_toArray, List.set_cons_zero, List.set_cons_succ]
            refine late_ready (rs := [15]) (by kernel_rfl) (by simp) ?_
            refine lates_cons (o := { dst := some 38, op := Op.call { callee := Callee.builtin Builtin.append, args := #[Operand.tmp 31, Operand.tmp 37], argTypes := #[29, 29] }, type := 29, pos := "law.go:85", after := #[{ on := 8, ground := Ground.data }, { on := 14, ground := Ground.data }], guard := none }) rfl (fun K hK => ?_) (lates_nil)
            go_simp
            refine hK.out _ _ ?_ (fun hHeld => ?_)
            · repeat (first | with_reducible assumption | with_reducible refine s5_drew ?_ | with_reducible refine s5_alloc ?_)
            clear hK K
            try simp only [Act.put, List.setIfInBounds_toArray, List.set_cons_zero, List.set_cons_succ]
            refine late_ready (rs := [23]) (by kernel_rfl) (by simp) ?_
            refine lates_cons (o := { dst := some 46, op := Op.call { callee := Callee.builtin Builtin.append, args := #[Operand.tmp 39, Operand.tmp 45], argTypes := #[29, 29] }, type := 29, pos := "law.go:85", after := #[{ on := 16, ground := Ground.data }, { on := 22, ground := Ground.data }, { on := 15, ground := Ground.chain }], guard := none }) rfl (fun K hK => ?_) (lates_nil)
            go_simp
            refine hK.out _ _ ?_ (fun hHeld => ?_)
            · repeat (first | with_reducible assumption | with_reducible refine s5_drew ?_ | with_reducible refine s5_alloc ?_)
            clear hK K
            try simp only [Act.put, List.setIfInBounds_toArray, List.set_cons_zero, List.set_cons_succ]
            refine late_take (i := 24) (oi := { dst := some 47, op := Op.build 31 #[(0, Operand.tmp 30), (1, Operand.tmp 38), (2, Operand.tmp 46)], type := 31, pos := "law.go:85", after := #[{ on := 7, ground := Ground.data }, { on := 15, ground := Ground.data }, { on := 23, ground := Ground.data }], guard := none }) (v := ?_) rfl (by kernel_rfl) (by kernel_rfl) (by kernel_rfl) (by kernel_rfl) (fun _ _ _ h => h) (Or.inl ⟨by rfl, ?hy⟩) (by assumption) ?_
            case hy => (intro w hSw; (try dsimp only at hSw); go_simp; first | done | with_reducible rfl)
            try simp only [Act.put, List.setIfInBounds_toArray, List.set_cons_zero, List.set_cons_succ]
            refine late_ready (rs := [25]) (by kernel_rfl) (by simp) ?_
            refine lates_cons (o := { dst := some 48, op := Op.buildSlice 22 1 #[(0, Operand.tmp 47)], type := 22, pos := "law.go:85", after := #[{ on := 24, ground := Ground.data }], guard := none }) rfl (fun K hK => ?_) (lates_nil)
            go_simp
            refine hK.out _ _ ?_ (fun hHeld => ?_)
            · repeat (first | with_reducible assumption | with_reducible refine s5_drew ?_ | with_reducible refine s5_alloc ?_)
            clear hK K
            try simp only [Act.put, List.setIfInBounds_toArray, List.set_cons_zero, List.set_cons_succ]
            refine late_ready (rs := [26]) (by kernel_rfl) (by simp) ?_
            refine lates_cons (o := { dst := some 49, op := Op.call { callee := Callee.builtin Builtin.append, args := #[Operand.tmp 24, Operand.tmp 48], argTypes := #[22, 22] }, type := 22, pos := "law.go:85", after := #[{ on := 1, ground := Ground.data }, { on := 25, ground := Ground.data }, { on := 23, ground := Ground.chain }], guard := none }) rfl (fun K hK => ?_) (lates_nil)
            go_simp
            refine hK.out _ _ ?_ (fun hHeld => ?_)
            · repeat (first | with_reducible assumption | with_reducible refine s5_drew ?_ | with_reducible refine s5_alloc ?_)
            clear hK K
            try simp only [Act.put, List.setIfInBounds_toArray, List.set_cons_zero, List.set_cons_succ]
            refine late_take (i := 27) (oi := { dst := some 50, op := Op.fieldAddr 24 (Operand.tmp 3) 0, type := 0, pos := "law.go:85", after := #[{ on := 0, ground := Ground.phase }, { on := 1, ground := Ground.phase }, { on := 2, ground := Ground.phase }, { on := 3, ground := Ground.phase }, { on := 4, ground := Ground.phase }, { on := 5, ground := Ground.phase }, { on := 6, ground := Ground.phase }, { on := 7, ground := Ground.phase }, { on := 8, ground := Ground.phase }, { on := 9, ground := Ground.phase }, { on := 10, ground := Ground.phase }, { on := 11, ground := Ground.phase }, { on := 12, ground := Ground.phase }, { on := 13, ground := Ground.phase }, { on := 14, ground := Ground.phase }, { on := 15, ground := Ground.phase }, { on := 16, ground := Ground.phase }, { on := 17, ground := Ground.phase }, { on := 18, ground := Ground.phase }, { on := 19, ground := Ground.phase }, { on := 20, ground := Ground.phase }, { on := 21, ground := Ground.phase }, { on := 22, ground := Ground.phase }, { on := 23, ground := Ground.phase }, { on := 24, ground := Ground.phase }, { on := 25, ground := Ground.phase }, { on := 26, ground := Ground.phase }], guard := none }) (v := ?_) rfl (by kernel_rfl) (by kernel_rfl) (by kernel_rfl) (by kernel_rfl) (fun _ _ _ h => h) (Or.inl ⟨by rfl, ?hy⟩) (by assumption) ?_
            case hy => (intro w hSw; (try dsimp only at hSw); go_simp; first | done | with_reducible rfl)
            try simp only [Act.put, List.setIfInBounds_toArray, List.set_cons_zero, List.set_cons_succ]
            refine late_ready (rs := [28]) (by kernel_rfl) (by simp) ?_
            refine lates_last (o := { dst := none, op := Op.store 22 (Operand.tmp 50) (Operand.tmp 49), type := 0, pos := "law.go:85", after := #[{ on := 27, ground := Ground.data }, { on := 26, ground := Ground.data }, { on := 26, ground := Ground.chain }, { on := 0, ground := Ground.phase }, { on := 1, ground := Ground.phase }, { on := 2, ground := Ground.phase }, { on := 3, ground := Ground.phase }, { on := 4, ground := Ground.phase }, { on := 5, ground := Ground.phase }, { on := 6, ground := Ground.phase }, { on := 7, ground := Ground.phase }, { on := 8, ground := Ground.phase }, { on := 9, ground := Ground.phase }, { on := 10, ground := Ground.phase }, { on := 11, ground := Ground.phase }, { on := 12, ground := Ground.phase }, { on := 13, ground := Ground.phase }, { on := 14, ground := Ground.phase }, { on := 15, ground := Ground.phase }, { on := 16, ground := Ground.phase }, { on := 17, ground := Ground.phase }, { on := 18, ground := Ground.phase }, { on := 19, ground := Ground.phase }, { on := 20, ground := Ground.phase }, { on := 21, ground := Ground.phase }, { on := 22, ground := Ground.phase }, { on := 23, ground := Ground.phase }, { on := 24, ground := Ground.phase }, { on := 25, ground := Ground.phase }, { on := 26, ground := Ground.phase }], guard := none }) rfl (fun K hK => ?_)
            go_simp
            refine hK.out _ _ ?_
            clear hK K
            try simp only [Act.put, List.setIfInBounds_toArray, List.set_cons_zero, List.set_cons_succ]
            refine late_done (by kernel_rfl) ?_ _
            clear g1 g2 g3 g4 g5 g6 g7 a1 a2 a3 a4 a5 a6 a7 b1 b2 b3 b4 b5 b6 b7 hHeld
            obtain ⟨p', q', M', hk'⟩ := HR.out.2.1
            clear HR
            go_wp2
            go_roundg (n - (i + 1))
            case measure => omega
            case rel => exact ⟨_, i + 1, rfl, by omega, rfl, rfl, _, _, p', q', M', hk'⟩
        · go_simp
          refine hK.out _ _ ?_ (fun hHeld => ?_)
          · repeat (first | with_reducible assumption | with_reducible refine s5_drew ?_ | with_reducible refine s5_alloc ?_)
          clear hK K
          try simp only [Act.put, List.setIfInBounds_toArray, List.set_cons_zero, List.set_cons_succ]
          refine late_ready (rs := [8]) (by kernel_rfl) (by simp) ?_
          refine lates_cons (o := { dst := some 31, op := Op.buildSlice 29 0 #[], type := 29, pos := "law.go:85", after := #[], guard := none }) rfl (fun K hK => ?_) (lates_nil)
          go_simp
          refine hK.out _ _ ?_ (fun hHeld => ?_)
          · repeat (first | with_reducible assumption | with_reducible refine s5_drew ?_ | with_reducible refine s5_alloc ?_)
          clear hK K
          try simp only [Act.put, List.setIfInBounds_toArray, List.set_cons_zero, List.set_cons_succ]
          refine late_ready (rs := [15]) (by kernel_rfl) (by simp) ?_
          refine lates_cons (o := { dst := some 38, op := Op.call { callee := Callee.builtin Builtin.append, args := #[Operand.tmp 31, Operand.tmp 37], argTypes := #[29, 29] }, type := 29, pos := "law.go:85", after := #[{ on := 8, ground := Ground.data }, { on := 14, ground := Ground.data }], guard := none }) rfl (fun K hK => ?_) (lates_nil)
          go_simp
          refine hK.out _ _ ?_ (fun hHeld => ?_)
          · repeat (first | with_reducible assumption | with_reducible refine s5_drew ?_ | with_reducible refine s5_alloc ?_)
          clear hK K
          try simp only [Act.put, List.setIfInBounds_toArray, List.set_cons_zero, List.set_cons_succ]
          refine late_ready (rs := [23]) (by kernel_rfl) (by simp) ?_
          refine lates_cons (o := { dst := some 46, op := Op.call { callee := Callee.builtin Builtin.append, args := #[Operand.tmp 39, Operand.tmp 45], argTypes := #[29, 29] }, type := 29, pos := "law.go:85", after := #[{ on := 16, ground := Ground.data }, { on := 22, ground := Ground.data }, { on := 15, ground := Ground.chain }], guard := none }) rfl (fun K hK => ?_) (lates_nil)
          go_simp
          refine hK.out _ _ ?_ (fun hHeld => ?_)
          · repeat (first | with_reducible assumption | with_reducible refine s5_drew ?_ | with_reducible refine s5_alloc ?_)
          clear hK K
          try simp only [Act.put, List.setIfInBounds_toArray, List.set_cons_zero, List.set_cons_succ]
          refine late_take (i := 24) (oi := { dst := some 47, op := Op.build 31 #[(0, Operand.tmp 30), (1, Operand.tmp 38), (2, Operand.tmp 46)], type := 31, pos := "law.go:85", after := #[{ on := 7, ground := Ground.data }, { on := 15, ground := Ground.data }, { on := 23, ground := Ground.data }], guard := none }) (v := ?_) rfl (by kernel_rfl) (by kernel_rfl) (by kernel_rfl) (by kernel_rfl) (fun _ _ _ h => h) (Or.inl ⟨by rfl, ?hy⟩) (by assumption) ?_
          case hy => (intro w hSw; (try dsimp only at hSw); go_simp; first | done | with_reducible rfl)
          try simp only [Act.put, List.setIfInBounds_toArray, List.set_cons_zero, List.set_cons_succ]
          refine late_ready (rs := [25]) (by kernel_rfl) (by simp) ?_
          refine lates_cons (o := { dst := some 48, op := Op.buildSlice 22 1 #[(0, Operand.tmp 47)], type := 22, pos := "law.go:85", after := #[{ on := 24, ground := Ground.data }], guard := none }) rfl (fun K hK => ?_) (lates_nil)
          go_simp
          refine hK.out _ _ ?_ (fun hHeld => ?_)
          · repeat (first | with_reducible assumption | with_reducible refine s5_drew ?_ | with_reducible refine s5_alloc ?_)
          clear hK K
          try simp only [Act.put, List.setIfInBounds_toArray, List.set_cons_zero, List.set_cons_succ]
          refine late_ready (rs := [26]) (by kernel_rfl) (by simp) ?_
          refine lates_cons (o := { dst := some 49, op := Op.call { callee := Callee.builtin Builtin.append, args := #[Operand.tmp 24, Operand.tmp 48], argTypes := #[22, 22] }, type := 22, pos := "law.go:85", after := #[{ on := 1, ground := Ground.data }, { on := 25, ground := Ground.data }, { on := 23, ground := Ground.chain }], guard := none }) rfl (fun K hK => ?_) (lates_nil)
          go_simp
          refine hK.out _ _ ?_ (fun hHeld => ?_)
          · repeat (first | with_reducible assumption | with_reducible refine s5_drew ?_ | with_reducible refine s5_alloc ?_)
          clear hK K
          try simp only [Act.put, List.setIfInBounds_toArray, List.set_cons_zero, List.set_cons_succ]
          refine late_take (i := 27) (oi := { dst := some 50, op := Op.fieldAddr 24 (Operand.tmp 3) 0, type := 0, pos := "law.go:85", after := #[{ on := 0, ground := Ground.phase }, { on := 1, ground := Ground.phase }, { on := 2, ground := Ground.phase }, { on := 3, ground := Ground.phase }, { on := 4, ground := Ground.phase }, { on := 5, ground := Ground.phase }, { on := 6, ground := Ground.phase }, { on := 7, ground := Ground.phase }, { on := 8, ground := Ground.phase }, { on := 9, ground := Ground.phase }, { on := 10, ground := Ground.phase }, { on := 11, ground := Ground.phase }, { on := 12, ground := Ground.phase }, { on := 13, ground := Ground.phase }, { on := 14, ground := Ground.phase }, { on := 15, ground := Ground.phase }, { on := 16, ground := Ground.phase }, { on := 17, ground := Ground.phase }, { on := 18, ground := Ground.phase }, { on := 19, ground := Ground.phase }, { on := 20, ground := Ground.phase }, { on := 21, ground := Ground.phase }, { on := 22, ground := Ground.phase }, { on := 23, ground := Ground.phase }, { on := 24, ground := Ground.phase }, { on := 25, ground := Ground.phase }, { on := 26, ground := Ground.phase }], guard := none }) (v := ?_) rfl (by kernel_rfl) (by kernel_rfl) (by kernel_rfl) (by kernel_rfl) (fun _ _ _ h => h) (Or.inl ⟨by rfl, ?hy⟩) (by assumption) ?_
          case hy => (intro w hSw; (try dsimp only at hSw); go_simp; first | done | with_reducible rfl)
          try simp only [Act.put, List.setIfInBounds_toArray, List.set_cons_zero, List.set_cons_succ]
          refine late_ready (rs := [28]) (by kernel_rfl) (by simp) ?_
          refine lates_last (o := { dst := none, op := Op.store 22 (Operand.tmp 50) (Operand.tmp 49), type := 0, pos := "law.go:85", after := #[{ on := 27, ground := Ground.data }, { on := 26, ground := Ground.data }, { on := 26, ground := Ground.chain }, { on := 0, ground := Ground.phase }, { on := 1, ground := Ground.phase }, { on := 2, ground := Ground.phase }, { on := 3, ground := Ground.phase }, { on := 4, ground := Ground.phase }, { on := 5, ground := Ground.phase }, { on := 6, ground := Ground.phase }, { on := 7, ground := Ground.phase }, { on := 8, ground := Ground.phase }, { on := 9, ground := Ground.phase }, { on := 10, ground := Ground.phase }, { on := 11, ground := Ground.phase }, { on := 12, ground := Ground.phase }, { on := 13, ground := Ground.phase }, { on := 14, ground := Ground.phase }, { on := 15, ground := Ground.phase }, { on := 16, ground := Ground.phase }, { on := 17, ground := Ground.phase }, { on := 18, ground := Ground.phase }, { on := 19, ground := Ground.phase }, { on := 20, ground := Ground.phase }, { on := 21, ground := Ground.phase }, { on := 22, ground := Ground.phase }, { on := 23, ground := Ground.phase }, { on := 24, ground := Ground.phase }, { on := 25, ground := Ground.phase }, { on := 26, ground := Ground.phase }], guard := none }) rfl (fun K hK => ?_)
          go_simp
          refine hK.out _ _ ?_
          clear hK K
          try simp only [Act.put, List.setIfInBounds_toArray, List.set_cons_zero, List.set_cons_succ]
          refine late_done (by kernel_rfl) ?_ _
          clear g1 g2 g3 g4 g5 g6 g7 a1 a2 a3 a4 a5 a6 a7 b1 b2 b3 b4 b5 b6 b7 hHeld
          obtain ⟨p', q', M', hk'⟩ := HR.out.2.2
          clear HR
          go_wp2
          go_roundg (n - (i + 1))
          case measure => omega
          case rel => exact ⟨_, i + 1, rfl, by omega, rfl, rfl, _, _, p', q', M', hk'⟩
      · obtain rfl : i = n := by omega
        have HM : Hid (M.map keyV = L.map keyV) := by
          show M.map keyV = L.map keyV
          rw [hks.key, List.take_of_length_le (by rw [HF.out.2.2.2]; exact Nat.le_refl _)]
        clear hks hfz y0
        go_wp2_with (first
          | (go_at_call 8; with_reducible refine Calls.mono (check_any _ _ _ b off L _ _ (HV.out.below HK.out.sg.2) HF.out.2.1) ?_; rintro e w4 ⟨rfl, hb⟩; have HK4 := hid (HK.out.below hb); clear hb x0 x1; obtain ⟨⟨x0, x1⟩, -⟩ := id HK4.out.sg; have y0 := HK4.out.c0; have y1 := HK4.out.c1)
          | (go_at_call 11; with_reducible refine Calls.mono (same_yes _ _ _ b off L _ _ p q M _ _ (HV.out.below HK4.out.sg.2) HK4.out.nw.vn HM.out) ?_; rintro e w5 ⟨rfl, hb⟩; have H5 := hid (via (w := w) HK4.out.sg.2 hb); clear hb))
        go_ret
        exact ⟨rfl, H5.out⟩

theorem own : ownKnob Try.prog.godebug = none := by kernel_rfl

set_option maxHeartbeats 400000 in
set_option maxRecDepth 100000 in
theorem lifted (os : Os) (started : os.Started) (H : Type) (enc : TypeId × Value → H) :
    ReturnsInHanded {} Try.checked os 5 .any (Rows.nodeKeepsSpec.pre6 enc Try.prog Try.f5 Rows.nodeKeepsRow.domain false) (Rows.nodeKeepsSpec.post enc Try.prog Try.f5 false true false false) := by
  refine returnsInHanded_of_change (C := Try.checked) own started (by kernel_rfl) Try.func5
    (ChangeSpec.witness6 (enc := enc) (C := Try.checked) false ⟨#[], #[.agg #[.slice none 0 0, .int .i64 0]], []⟩ 8 (by kernel_rfl) (by kernel_rfl) (by kernel_rfl) (by kernel_rfl)) ?_
  intro W base args ds gs before hval0 hW hcnd _
  have hval : ∀ (j : Nat) t v, Try.f5.params[j]? = some t → args[j]? = some v → Value.okWide Try.prog W .any base t v := hval0
  have hW' := hW
  obtain ⟨p, q, hA0, hV, rfl, hfz, hnd⟩ := hW
  have hA : DataW.TrodAll enc Try.prog W 0 (fun _ => true) true Try.f5.params.toList args.toList ds p := hA0
  rw [Try.params5] at hA hval
  obtain ⟨v0, vs0, d0, ds0, p0, q0, hargs, rfl, rfl, h0, r0⟩ := trodAll_cons hA
  obtain ⟨rfl, rfl, rfl⟩ := trodAll_nil r0
  obtain rfl : args = #[v0] := by cases args; simp_all
  obtain ⟨rfl, rfl⟩ := trodVars_none hV
  obtain ⟨ao0, n0, c0, b0, off0, L0, out0, rfl, hv0⟩ := open_graph (hval 0 24 v0 rfl rfl) h0
  clear hA0 hval0
  simp only [List.append_nil] at hW'
  have hlt0 : ∀ x ∈ p0, x.block < W.heap.size := fun x hx => hW'.lt x (by simp [hx])
  refine (walk ao0 n0 c0 b0 off0 L0 out0 W hv0).mono fun e W' ⟨he, hg⟩ => ?_
  subst he
  have t0 := Below.trod laidOut (by kernel_rfl) (of_decide_eq_true (by kernel_rfl)) h0 hg (fun x hx => hlt0 x hx)
  exact ⟨_, rfl, ⟨_, _, _, _, _, _, hW', (trodAll_cons_mk (shut_bool Try.underlying4 _) trodAll_mk0), (trodAll_cons_mk t0 trodAll_mk0), rfl, hg.frame _, fun h => by cases h⟩⟩

theorem over : Rows.nodeKeepsRow.holds Try.pinned (OpenSpec.ofChange Rows.nodeKeepsSpec) :=
  OpenClaim.holds_of_wide 5 Try.f5 rfl rfl rfl rfl rfl rfl rfl ⟨rfl, rfl, rfl, rfl, rfl⟩ rfl rfl rfl rfl rfl (by kernel_rfl) Try.func5 (by kernel_rfl)
    (of_decide_eq_true (by kernel_rfl)) (by unfold Func.isWrapper; first | (rw [if_pos (by decide +kernel)]; kernel_rfl) | (rw [if_neg (by decide +kernel)]; exact ⟨rfl, rfl⟩))
    (fun os started H enc _ => lifted os started H enc)

theorem proved : Rows.NodeKeepsSaid := over
#print axioms proved
end Go.Proofs.Ytleclkjinkbebaa.nodeKeeps
