/- For every filter and every node: a filter that is taken is so with the node more behind, whichever may be; no condition. -/
import Derived.Test.YtleclkjinkbebaaRows
import Derived.WalkKit
import Derived.ProofKit
import Derived.OpenShut
import Derived.Deep.DeepCutAuto
import Derived.Test.YtleclkjinkbebaaOpen
import Derived.Test.YtleclkjinkbebaaMoreS
import Derived.Test.YtleclkjinkbebaaLate
namespace Go.Proofs.Ytleclkjinkbebaa.nodeMore
open Go.ChangeShapes Go.WideShapes Go.ChangeAt Go.RowKit Num
set_option linter.unusedVariables false
set_option linter.unusedSimpArgs false
attribute [local go_sem ↓] run_app
attribute [local go_sem] lenV_slice

/-- the filter's two cells and the node's three stand -/
abbrev Sm (w : World) (ao : Option Addr) (n c : Nat) (out : Int) (u : Nv) (w' : World) : Prop := S5m w.heap.size (w.heap.size + 1) (.slice ao n c) (.int .i64 out) (.int .i64 u.op) (.slice u.ai u.ni u.ci) (.slice u.ap u.np u.cp) w' ∧ Below w.heap.size w w'
theorem sm_below {w w' w2 : World} {ao : Option Addr} {n c : Nat} {out : Int} {u : Nv} (h : Sm w ao n c out u w') (hb : Below w'.heap.size w' w2) : Sm w ao n c out u w2 := ⟨sm_low h.1 hb, via (w := w) h.2 hb⟩
theorem sm_new (w : World) (ao : Option Addr) (n c : Nat) (out : Int) (u : Nv) : Sm w ao n c out u ((w.alloc (.cells #[.slice ao n c, .int .i64 out] 24)).alloc (.cells #[.int .i64 u.op, .slice u.ai u.ni u.ci, .slice u.ap u.np u.cp] 31)) := by
  have h1 := sg_new w ao n c out 24
  have hz : (w.alloc (.cells #[.slice ao n c, .int .i64 out] 24)).heap.size = w.heap.size + 1 := by simp
  generalize (w.alloc (.cells #[.slice ao n c, .int .i64 out] 24)) = w1 at *
  have hb : Below w1.heap.size w1 (w1.alloc (.cells #[.int .i64 u.op, .slice u.ai u.ni u.ci, .slice u.ap u.np u.cp] 31)) := (Below.refl _ _).alloc (Nat.le_refl _) _
  have hn := nb_new w1 u.op u.ai u.ni u.ci u.ap u.np u.cp 31
  rw [hz] at hn
  exact ⟨⟨cell_below hb h1.1.1, cell_below hb h1.1.2, hn.c0, hn.c1, hn.c2⟩, via h1.2 hb⟩
theorem check_m {w w' : World} {ao : Option Addr} {n c b off : Nat} {L : List Nv} {out x : Int} {u : Nv} (h : Vn w ao n c b off L) (hf : Few n L) (hx : checkI L out = x) (hs : Sm w ao n c out u w') : Calls Try.prog 8 #[.agg #[.slice ao n c, .int .i64 out]] w' fun e w2 => e = .returned (.int .i64 x) ∧ Below w'.heap.size w' w2 := by
  subst hx; exact check_any ao n c b off L out w' (h.below hs.2) hf

/-- the greater filter's two cells and the node's three stand, and nothing that was there is written -/
abbrev S6m (w1 : World) (k k2 : Nat) (u v x y z : Value) (w' : World) : Prop := (w'.cell? ⟨k, 0, none⟩ = some u ∧ w'.cell? ⟨k, 1, none⟩ = some v ∧ w'.cell? ⟨k2, 0, none⟩ = some x ∧ w'.cell? ⟨k2, 1, none⟩ = some y ∧ w'.cell? ⟨k2, 2, none⟩ = some z) ∧ Below w1.heap.size w1 w'
section
variable {w1 : World} {k k2 : Nat} {p q x y z : Value} {w' : World}
theorem s6_drew (h : S6m w1 k k2 p q x y z w') : S6m w1 k k2 p q x y z w'.drew := ⟨h.1, h.2.drew⟩
theorem s6_below {w2 : World} (h : S6m w1 k k2 p q x y z w') (hb : Below w'.heap.size w' w2) : S6m w1 k k2 p q x y z w2 := ⟨sm_low h.1 hb, via (w := w1) h.2 hb⟩
theorem check_6 {ao : Option Addr} {n c b off : Nat} {L : List Nv} {out r : Int} (h : Vn w1 ao n c b off L) (hf : Few n L) (hr : checkI L out = r) (hs : S6m w1 k k2 p q x y z w') : Calls Try.prog 8 #[.agg #[.slice ao n c, .int .i64 out]] w' fun e w2 => e = .returned (.int .i64 r) ∧ Below w'.heap.size w' w2 := by
  subst hr; exact check_any ao n c b off L out w' (h.below hs.2) hf
theorem one_6 {op count r : Int} {ai : Option Addr} {ni ci bi oi : Nat} {l : List Int} {ap : Option Addr} {np cp bp ob : Nat} {ps : List Int} (hi : Vi w1 ai ni ci bi oi l) (hp : Vi w1 ap np cp bp ob ps) (hr : oneI op l ps count = r) (hs : S6m w1 k k2 p q x y z w') : Calls Try.prog 10 #[.agg #[.int .i64 op, .slice ai ni ci, .slice ap np cp], .int .i64 count] w' fun e w2 => e = .returned (.int .i64 r) ∧ Below w'.heap.size w' w2 := by
  subst hr; exact one_any op ai ni ci bi oi l ap np cp bp ob ps count w' (hi.below hs.2) (hp.below hs.2)
end

set_option maxRecDepth 100000 in
set_option maxHeartbeats 16000000 in
theorem walk (ao : Option Addr) (n c b off : Nat) (L : List Nv) (out : Int) (u : Nv) (w : World) (h : Vn w ao n c b off L) (hi : Vi w u.ai u.ni u.ci u.bi u.oi u.l) (hp : Vi w u.ap u.np u.cp u.bp u.ob u.p) :
    Calls Try.prog 4 #[.agg #[.slice ao n c, .int .i64 out], .agg #[.int .i64 u.op, .slice u.ai u.ni u.ci, .slice u.ap u.np u.cp]] w fun e w' => e = .returned (.bool true) ∧ Below w.heap.size w w' := by
  have hl := vn_len h
  have HS := hid (sm_new w ao n c out u)
  have HV := hid h
  have HU := hid (And.intro hi hp)
  have hui := vi_len hi
  have hni := vz_small hi
  have hnp := vz_small hp
  clear h hi hp
  rcases hfew : fewB L 255 with _ | _
  · have HF := hid hfew
    clear hfew
    go_enter Try.func4, Try.ntmps4
    go_wp2_with (first
      | (go_at_call 6; with_reducible refine Calls.mono (awake_any _) ?_; rintro e w1 ⟨rfl, hb⟩; replace HS := hid (sm_below HS.out hb); obtain ⟨⟨x0, x1, y0, y1, y2⟩, -⟩ := id HS.out; clear hb)
      | (go_at_call 7; with_reducible refine Calls.mono (few_any _ _ _ b off L _ 255 _ (HV.out.below HS.out.2) (by decide)) ?_; rintro e w2 ⟨rfl, hb⟩; replace HS := hid (sm_below HS.out hb); rw [HF.out]; clear hb x0 x1 y0 y1 y2))
    go_ret
    exact ⟨rfl, HS.out.2⟩
  obtain ⟨hn, hf, -⟩ := few_of hl hfew (by decide)
  have HF := hid (And.intro hfew (And.intro hf hl))
  clear hfew hf hl
  by_cases h1 : 50 < u.ni
  · have h1z : (50 : Int) < (u.ni : Int) := by omega
    go_enter Try.func4, Try.ntmps4
    go_wp2_with (first
      | (go_at_call 6; with_reducible refine Calls.mono (awake_any _) ?_; rintro e w1 ⟨rfl, hb⟩; replace HS := hid (sm_below HS.out hb); obtain ⟨⟨x0, x1, y0, y1, y2⟩, -⟩ := id HS.out; clear hb)
      | (go_at_call 7; with_reducible refine Calls.mono (few_any _ _ _ b off L _ 255 _ (HV.out.below HS.out.2) (by decide)) ?_; rintro e w2 ⟨rfl, hb⟩; replace HS := hid (sm_below HS.out hb); rw [HF.out.1]; clear x0 x1 y0 y1 y2; obtain ⟨⟨x0, x1, y0, y1, y2⟩, -⟩ := id HS.out; clear hb))
    go_ret
    exact ⟨rfl, HS.out.2⟩
  have h1z : ¬ (50 : Int) < (u.ni : Int) := by omega
  by_cases h2 : 50 < u.np
  · have h2z : (50 : Int) < (u.np : Int) := by omega
    go_enter Try.func4, Try.ntmps4
    go_wp2_with (first
      | (go_at_call 6; with_reducible refine Calls.mono (awake_any _) ?_; rintro e w1 ⟨rfl, hb⟩; replace HS := hid (sm_below HS.out hb); obtain ⟨⟨x0, x1, y0, y1, y2⟩, -⟩ := id HS.out; clear hb)
      | (go_at_call 7; with_reducible refine Calls.mono (few_any _ _ _ b off L _ 255 _ (HV.out.below HS.out.2) (by decide)) ?_; rintro e w2 ⟨rfl, hb⟩; replace HS := hid (sm_below HS.out hb); rw [HF.out.1]; clear x0 x1 y0 y1 y2; obtain ⟨⟨x0, x1, y0, y1, y2⟩, -⟩ := id HS.out; clear hb))
    go_ret
    exact ⟨rfl, HS.out.2⟩
  have h2z : ¬ (50 : Int) < (u.np : Int) := by omega
  obtain ⟨x, hx⟩ : ∃ x, x = checkI L out := ⟨_, rfl⟩
  by_cases hX : x = 0
  · subst hX
    have HX : Hid (checkI L out = 0) := hx.symm
    clear hx
    go_enter Try.func4, Try.ntmps4
    go_wp2_with (first
      | (go_at_call 6; with_reducible refine Calls.mono (awake_any _) ?_; rintro e w1 ⟨rfl, hb⟩; replace HS := hid (sm_below HS.out hb); obtain ⟨⟨x0, x1, y0, y1, y2⟩, -⟩ := id HS.out; clear hb)
      | (go_at_call 7; with_reducible refine Calls.mono (few_any _ _ _ b off L _ 255 _ (HV.out.below HS.out.2) (by decide)) ?_; rintro e w2 ⟨rfl, hb⟩; replace HS := hid (sm_below HS.out hb); rw [HF.out.1]; clear x0 x1 y0 y1 y2; obtain ⟨⟨x0, x1, y0, y1, y2⟩, -⟩ := id HS.out; clear hb)
      | (go_at_call 8; with_reducible refine Calls.mono (check_m HV.out HF.out.2.1 HX.out HS.out) ?_; rintro e w3 ⟨rfl, hb⟩; replace HS := hid (sm_below HS.out hb); clear x0 x1 y0 y1 y2; obtain ⟨⟨x0, x1, y0, y1, y2⟩, -⟩ := id HS.out; clear hb))
    clear x0 x1 y0 y1 y2
    go_loopg [5] u.ni (fun gk x5 wr => ∃ (w4 : World) (k : Nat), w4 = wr ∧ k ≤ u.ni ∧ gk = u.ni - k ∧ x5 = .int .i64 k ∧ Sm w ao n c out u w4 ∧ ∀ m, m ∈ u.l.take k → m ≠ (n : Int))
    case atStart => exact ⟨_, 0, rfl, Nat.zero_le _, rfl, rfl, HS.out, fun m hm => by simp at hm⟩
    case round =>
      clear HS
      obtain ⟨wA, k, rfl, hk, rfl, rfl, hS, hN⟩ := hrel
      have HS := hid hS
      have HN := hid hN
      obtain ⟨⟨x0, x1, y0, y1, y2⟩, -⟩ := id hS
      clear hS hN
      by_cases hlt : k < u.ni
      · have hlz : (k : Int) < (u.ni : Int) := by omega
        obtain ⟨m, hm⟩ : ∃ m, u.l[k]? = some m := ⟨_, List.getElem?_eq_getElem (by rw [hui]; exact hlt)⟩
        obtain ⟨hai, e0⟩ := vi_at (HU.out.1.below HS.out.2) hm
        have HM := hid hm
        clear hm
        rw [hai] at y1
        by_cases hq : m = (n : Int)
        · have t1 : (m == (n : Int)) = true := by simpa using hq
          go_wp2
          go_quiet (fail)
          go_wp2
          go_ret
          exact ⟨rfl, below_drewN HS.out.2 _⟩
        · have t1 : (m == (n : Int)) = false := by simpa using hq
          go_wp2
          go_quiet (fail)
          go_wp2
          go_roundg (u.ni - (k + 1))
          case measure => omega
          case rel =>
            refine ⟨_, k + 1, rfl, hlt, rfl, by simp, sm_below HS.out (below_drewN (Below.refl _ _) _), fun m' hm' => ?_⟩
            rw [List.take_add_one, HM.out] at hm'
            rcases List.mem_append.1 hm' with h | h
            · exact HN.out m' h
            · simp at h
              subst h
              exact hq
      · obtain rfl : k = u.ni := by omega
        have hnot : (L.length : Int) ∉ u.l := by
          intro hc
          have := HN.out (L.length : Int) (by rw [List.take_of_length_le (by rw [hui]; exact Nat.le_refl _)]; exact hc)
          rw [HF.out.2.2] at this
          exact this rfl
        have hcm := check_more (u := u) HX.out (by rw [HF.out.2.2]; exact hn) hnot
        rw [HF.out.2.2] at hcm
        have HC := hid hcm
        have HL := hid (And.intro (HV.out.below HS.out.2) (And.intro (HU.out.1.below HS.out.2) (HU.out.2.below HS.out.2)))
        have HS5 := hid HS.out.1
        have HW := hid HS.out.2
        have hn9 : n ≤ 1000 := by omega
        have H := hid (md_start wA L u n)
        clear hnot hcm HN HS
        go_wp2
        clear x0 x1 y0 y1 y2
        go_cut [6] (fun v6 wx => ∃ (wB : World) (k : Nat) (a6 : Option Addr) (c6 b6 o6 : Nat), wB = wx ∧ v6 = .pointer (some ⟨k, 0, none⟩) ∧ Me wA L u n out k a6 c6 b6 o6 wB)
        case first =>
          refine wp_region_late (S := (fun w' => w'.cell? ⟨w.heap.size, 0, none⟩ = some (.slice ao n c) ∧ w'.cell? ⟨w.heap.size, 1, none⟩ = some (.int .i64 out) ∧ w'.cell? ⟨w.heap.size + 1, 0, none⟩ = some (.int .i64 u.op) ∧ w'.cell? ⟨w.heap.size + 1, 1, none⟩ = some (.slice u.ai u.ni u.ci) ∧ w'.cell? ⟨w.heap.size + 1, 2, none⟩ = some (.slice u.ap u.np u.cp))) 11 (by kernel_rfl) ?_ (fun hHeld => ?_)
          · exact sm_low HS5.out H.out.low
          refine late_take (i := 1) (oi := { dst := some 49, op := Op.fieldAddr 24 (Operand.tmp 2) 0, type := 0, pos := "law.go:74", after := #[], guard := none }) (v := ?_) rfl (by kernel_rfl) (by kernel_rfl) (by kernel_rfl) (by kernel_rfl) (fun _ _ _ h => h) (Or.inl ⟨by rfl, ?hy⟩) (by assumption) ?_
          case hy => (intro w hSw; (try dsimp only at hSw); go_simp; first | done | with_reducible rfl)
          try simp only [Act.put, List.setIfInBounds_toArray, List.set_cons_zero, List.set_cons_succ]
          refine late_take (i := 2) (oi := { dst := some 50, op := Op.load 22 (Operand.tmp 49), type := 22, pos := "law.go:74", after := #[{ on := 1, ground := Ground.data }], guard := none }) (v := ?_) rfl (by kernel_rfl) (by kernel_rfl) (by kernel_rfl) (by kernel_rfl) (fun _ _ _ h => h) (Or.inl ⟨by rfl, ?hy⟩) (by assumption) ?_
          case hy => (intro w hSw; (try dsimp only at hSw); go_simp; first | done | with_reducible rfl)
          try simp only [Act.put, List.setIfInBounds_toArray, List.set_cons_zero, List.set_cons_succ]
          refine late_take (i := 4) (oi := { dst := some 52, op := Op.load 31 (Operand.tmp 3), type := 31, pos := "law.go:74", after := #[], guard := none }) (v := ?_) rfl (by kernel_rfl) (by kernel_rfl) (by kernel_rfl) (by kernel_rfl) (fun _ _ _ h => h) (Or.inl ⟨by rfl, ?hy⟩) (by assumption) ?_
          case hy => (intro w hSw; (try dsimp only at hSw); go_simp; first | done | with_reducible rfl)
          try simp only [Act.put, List.setIfInBounds_toArray, List.set_cons_zero, List.set_cons_succ]
          refine late_take (i := 7) (oi := { dst := some 55, op := Op.fieldAddr 24 (Operand.tmp 2) 1, type := 0, pos := "law.go:74", after := #[], guard := none }) (v := ?_) rfl (by kernel_rfl) (by kernel_rfl) (by kernel_rfl) (by kernel_rfl) (fun _ _ _ h => h) (Or.inl ⟨by rfl, ?hy⟩) (by assumption) ?_
          case hy => (intro w hSw; (try dsimp only at hSw); go_simp; first | done | with_reducible rfl)
          try simp only [Act.put, List.setIfInBounds_toArray, List.set_cons_zero, List.set_cons_succ]
          refine late_take (i := 8) (oi := { dst := some 56, op := Op.load 3 (Operand.tmp 55), type := 3, pos := "law.go:74", after := #[{ on := 7, ground := Ground.data }], guard := none }) (v := ?_) rfl (by kernel_rfl) (by kernel_rfl) (by kernel_rfl) (by kernel_rfl) (fun _ _ _ h => h) (Or.inl ⟨by rfl, ?hy⟩) (by assumption) ?_
          case hy => (intro w hSw; (try dsimp only at hSw); go_simp; first | done | with_reducible rfl)
          try simp only [Act.put, List.setIfInBounds_toArray, List.set_cons_zero, List.set_cons_succ]
          refine late_ready (rs := [0, 5, 10]) (by kernel_rfl) (by simp) ?_
          refine lates_cons (o := { dst := some 48, op := Op.buildSlice 22 0 #[], type := 22, pos := "law.go:74", after := #[], guard := none }) rfl (fun K hK => ?_) (lates_cons (o := { dst := some 53, op := Op.buildSlice 22 1 #[(0, Operand.tmp 52)], type := 22, pos := "law.go:74", after := #[{ on := 4, ground := Ground.data }], guard := none }) rfl (fun K hK => ?_) (lates_cons (o := { dst := some 6, op := Op.alloc 24, type := 0, pos := "law.go:74", after := #[], guard := none }) rfl (fun K hK => ?_) (lates_nil)))
          · go_simp
            have H0 := H
            replace H := hid (md_below H.out (md_b0 (.cells #[] 31)))
            refine hK.out _ _ ?_ (fun hHeld => ?_)
            · exact sm_low HS5.out H.out.low
            clear hK K
            try simp only [Act.put, List.setIfInBounds_toArray, List.set_cons_zero, List.set_cons_succ]
            obtain ⟨b3, o3, hA⟩ := md_app3 H.out HL.out.1.z hn9 (wA.heap.size)
            have HA3 := hid hA
            have hF := md_fine3 hA
            clear hA
            refine late_ready (rs := [3, 5, 10]) (by kernel_rfl) (by simp) ?_
            refine lates_cons (o := { dst := some 51, op := Op.call { callee := Callee.builtin Builtin.append, args := #[Operand.tmp 48, Operand.tmp 50], argTypes := #[22, 22] }, type := 22, pos := "law.go:74", after := #[{ on := 0, ground := Ground.data }, { on := 2, ground := Ground.data }], guard := none }) rfl (fun K hK => ?_) (lates_cons (o := { dst := some 53, op := Op.buildSlice 22 1 #[(0, Operand.tmp 52)], type := 22, pos := "law.go:74", after := #[{ on := 4, ground := Ground.data }], guard := none }) rfl (fun K hK => ?_) (lates_cons (o := { dst := some 6, op := Op.alloc 24, type := 0, pos := "law.go:74", after := #[], guard := none }) rfl (fun K hK => ?_) (lates_nil)))
            · go_simp
              replace H := hid (md_3 H.out HA3.out)
              refine hK.out _ _ ?_ (fun hHeld => ?_)
              · exact sm_low HS5.out H.out.low
              clear hK K
              try simp only [Act.put, List.setIfInBounds_toArray, List.set_cons_zero, List.set_cons_succ]
              clear hF HA3
              generalize apA Try.prog #[22, 22] 22 ((wA.alloc (.cells #[] 31)).drew) (.slice (some ⟨wA.heap.size, 0, none⟩) 0 0) (.slice ao n c) = a3 at H hHeld ⊢
              generalize apC Try.prog #[22, 22] 22 ((wA.alloc (.cells #[] 31)).drew) (.slice (some ⟨wA.heap.size, 0, none⟩) 0 0) (.slice ao n c) = c3 at H hHeld ⊢
              generalize apW Try.prog #[22, 22] 22 ((wA.alloc (.cells #[] 31)).drew) (.slice (some ⟨wA.heap.size, 0, none⟩) 0 0) (.slice ao n c) = W3 at H hHeld ⊢
              refine late_ready (rs := [5, 10]) (by kernel_rfl) (by simp) ?_
              refine lates_cons (o := { dst := some 53, op := Op.buildSlice 22 1 #[(0, Operand.tmp 52)], type := 22, pos := "law.go:74", after := #[{ on := 4, ground := Ground.data }], guard := none }) rfl (fun K hK => ?_) (lates_cons (o := { dst := some 6, op := Op.alloc 24, type := 0, pos := "law.go:74", after := #[], guard := none }) rfl (fun K hK => ?_) (lates_nil))
              · go_simp
                have H0 := H
                replace H := hid (md_5 H.out (g' := W3.heap.size) (by first | rfl | simp) 31)
                refine hK.out _ _ ?_ (fun hHeld => ?_)
                · exact sm_low HS5.out H.out.low
                clear hK K
                try simp only [Act.put, List.setIfInBounds_toArray, List.set_cons_zero, List.set_cons_succ]
                obtain ⟨b6, o6, hA⟩ := md_app6 H.out hn9
                have HA6 := hid hA
                have hF := hA.fine
                clear hA
                refine late_ready (rs := [6, 10]) (by kernel_rfl) (by simp) ?_
                refine lates_cons (o := { dst := some 54, op := Op.call { callee := Callee.builtin Builtin.append, args := #[Operand.tmp 51, Operand.tmp 53], argTypes := #[22, 22] }, type := 22, pos := "law.go:74", after := #[{ on := 3, ground := Ground.data }, { on := 5, ground := Ground.data }, { on := 3, ground := Ground.chain }], guard := none }) rfl (fun K hK => ?_) (lates_cons (o := { dst := some 6, op := Op.alloc 24, type := 0, pos := "law.go:74", after := #[], guard := none }) rfl (fun K hK => ?_) (lates_nil))
                · go_simp
                  replace H := hid (md_6 H.out HA6.out)
                  refine hK.out _ _ ?_ (fun hHeld => ?_)
                  · exact sm_low HS5.out H.out.low
                  clear hK K
                  try simp only [Act.put, List.setIfInBounds_toArray, List.set_cons_zero, List.set_cons_succ]
                  clear hF HA6
                  generalize apA Try.prog #[22, 22] 22 (W3.alloc (.cells #[.int .i64 u.op, .slice u.ai u.ni u.ci, .slice u.ap u.np u.cp] 31)) (.slice a3 n c3) (.slice (some ⟨W3.heap.size, 0, none⟩) 1 1) = a6 at H hHeld ⊢
                  generalize apC Try.prog #[22, 22] 22 (W3.alloc (.cells #[.int .i64 u.op, .slice u.ai u.ni u.ci, .slice u.ap u.np u.cp] 31)) (.slice a3 n c3) (.slice (some ⟨W3.heap.size, 0, none⟩) 1 1) = c6 at H hHeld ⊢
                  generalize apW Try.prog #[22, 22] 22 (W3.alloc (.cells #[.int .i64 u.op, .slice u.ai u.ni u.ci, .slice u.ap u.np u.cp] 31)) (.slice a3 n c3) (.slice (some ⟨W3.heap.size, 0, none⟩) 1 1) = W6 at H hHeld ⊢
                  refine late_take (i := 9) (oi := { dst := some 57, op := Op.build 24 #[(0, Operand.tmp 54), (1, Operand.tmp 56)], type := 24, pos := "law.go:74", after := #[{ on := 6, ground := Ground.data }, { on := 8, ground := Ground.data }], guard := none }) (v := ?_) rfl (by kernel_rfl) (by kernel_rfl) (by kernel_rfl) (by kernel_rfl) (fun _ _ _ h => h) (Or.inl ⟨by rfl, ?hy⟩) (by assumption) ?_
                  case hy => (intro w hSw; (try dsimp only at hSw); go_simp; first | done | with_reducible rfl)
                  try simp only [Act.put, List.setIfInBounds_toArray, List.set_cons_zero, List.set_cons_succ]
                  refine late_ready (rs := [10]) (by kernel_rfl) (by simp) ?_
                  refine lates_cons (o := { dst := some 6, op := Op.alloc 24, type := 0, pos := "law.go:74", after := #[], guard := none }) rfl (fun K hK => ?_) (lates_nil)
                  go_simp
                  have H0 := H
                  replace H := hid (md_10 H.out (k' := W6.heap.size) (by first | rfl | simp) 24)
                  refine hK.out _ _ ?_ (fun hHeld => ?_)
                  · exact sm_low HS5.out H.out.low
                  clear hK K
                  try simp only [Act.put, List.setIfInBounds_toArray, List.set_cons_zero, List.set_cons_succ]
                  refine late_ready (rs := [11]) (by kernel_rfl) (by simp) ?_
                  refine lates_last (o := { dst := none, op := Op.store 24 (Operand.tmp 6) (Operand.tmp 57), type := 0, pos := "law.go:74", after := #[{ on := 10, ground := Ground.data }, { on := 9, ground := Ground.data }, { on := 6, ground := Ground.chain }, { on := 0, ground := Ground.phase }, { on := 1, ground := Ground.phase }, { on := 2, ground := Ground.phase }, { on := 3, ground := Ground.phase }, { on := 4, ground := Ground.phase }, { on := 5, ground := Ground.phase }, { on := 6, ground := Ground.phase }, { on := 7, ground := Ground.phase }, { on := 8, ground := Ground.phase }, { on := 9, ground := Ground.phase }, { on := 10, ground := Ground.phase }], guard := none }) rfl (fun K hK => ?_)
                  go_simp
                  refine hK.out _ _ ?_
                  clear hK K
                  try simp only [Act.put, List.setIfInBounds_toArray, List.set_cons_zero, List.set_cons_succ]
                  refine late_done (by kernel_rfl) ?_ _
                  go_wp2_with fail
                  go_meet
                  case rel => exact ⟨_, W6.heap.size, _, _, _, _, rfl, rfl, me_fold HL.out.1 HL.out.2.1 HL.out.2.2 H0.out out _⟩
                · go_simp
                  have H0 := H
                  replace H := hid (md_10 H.out (k' := W3.heap.size + 1) (by first | rfl | simp) 24)
                  refine hK.out _ _ ?_ (fun hHeld => ?_)
                  · exact sm_low HS5.out H.out.low
                  clear hK K
                  try simp only [Act.put, List.setIfInBounds_toArray, List.set_cons_zero, List.set_cons_succ]
                  clear hF HA6
                  obtain ⟨b6, o6, hA⟩ := md_app6 H.out hn9
                  have HA6 := hid hA
                  have hF := hA.fine
                  clear hA
                  refine late_ready (rs := [6]) (by kernel_rfl) (by simp) ?_
                  refine lates_cons (o := { dst := some 54, op := Op.call { callee := Callee.builtin Builtin.append, args := #[Operand.tmp 51, Operand.tmp 53], argTypes := #[22, 22] }, type := 22, pos := "law.go:74", after := #[{ on := 3, ground := Ground.data }, { on := 5, ground := Ground.data }, { on := 3, ground := Ground.chain }], guard := none }) rfl (fun K hK => ?_) (lates_nil)
                  go_simp
                  replace H := hid (md_6 H.out HA6.out)
                  refine hK.out _ _ ?_ (fun hHeld => ?_)
                  · exact sm_low HS5.out H.out.low
                  clear hK K
                  try simp only [Act.put, List.setIfInBounds_toArray, List.set_cons_zero, List.set_cons_succ]
                  clear hF HA6
                  generalize apA Try.prog #[22, 22] 22 ((W3.alloc (.cells #[.int .i64 u.op, .slice u.ai u.ni u.ci, .slice u.ap u.np u.cp] 31)).alloc (.cells #[.slice none 0 0, .int .i64 0] 24)) (.slice a3 n c3) (.slice (some ⟨W3.heap.size, 0, none⟩) 1 1) = a6 at H hHeld ⊢
                  generalize apC Try.prog #[22, 22] 22 ((W3.alloc (.cells #[.int .i64 u.op, .slice u.ai u.ni u.ci, .slice u.ap u.np u.cp] 31)).alloc (.cells #[.slice none 0 0, .int .i64 0] 24)) (.slice a3 n c3) (.slice (some ⟨W3.heap.size, 0, none⟩) 1 1) = c6 at H hHeld ⊢
                  generalize apW Try.prog #[22, 22] 22 ((W3.alloc (.cells #[.int .i64 u.op, .slice u.ai u.ni u.ci, .slice u.ap u.np u.cp] 31)).alloc (.cells #[.slice none 0 0, .int .i64 0] 24)) (.slice a3 n c3) (.slice (some ⟨W3.heap.size, 0, none⟩) 1 1) = W6 at H hHeld ⊢
                  refine late_take (i := 9) (oi := { dst := some 57, op := Op.build 24 #[(0, Operand.tmp 54), (1, Operand.tmp 56)], type := 24, pos := "law.go:74", after := #[{ on := 6, ground := Ground.data }, { on := 8, ground := Ground.data }], guard := none }) (v := ?_) rfl (by kernel_rfl) (by kernel_rfl) (by kernel_rfl) (by kernel_rfl) (fun _ _ _ h => h) (Or.inl ⟨by rfl, ?hy⟩) (by assumption) ?_
                  case hy => (intro w hSw; (try dsimp only at hSw); go_simp; first | done | with_reducible rfl)
                  try simp only [Act.put, List.setIfInBounds_toArray, List.set_cons_zero, List.set_cons_succ]
                  refine late_ready (rs := [11]) (by kernel_rfl) (by simp) ?_
                  obtain ⟨-, ⟨q0, q1⟩, ⟨q2, q3⟩, -⟩ := H.out.h10 rfl
                  refine lates_last (o := { dst := none, op := Op.store 24 (Operand.tmp 6) (Operand.tmp 57), type := 0, pos := "law.go:74", after := #[{ on := 10, ground := Ground.data }, { on := 9, ground := Ground.data }, { on := 6, ground := Ground.chain }, { on := 0, ground := Ground.phase }, { on := 1, ground := Ground.phase }, { on := 2, ground := Ground.phase }, { on := 3, ground := Ground.phase }, { on := 4, ground := Ground.phase }, { on := 5, ground := Ground.phase }, { on := 6, ground := Ground.phase }, { on := 7, ground := Ground.phase }, { on := 8, ground := Ground.phase }, { on := 9, ground := Ground.phase }, { on := 10, ground := Ground.phase }], guard := none }) rfl (fun K hK => ?_)
                  go_simp
                  refine hK.out _ _ ?_
                  clear hK K
                  try simp only [Act.put, List.setIfInBounds_toArray, List.set_cons_zero, List.set_cons_succ]
                  refine late_done (by kernel_rfl) ?_ _
                  go_wp2_with fail
                  go_meet
                  case rel => exact ⟨_, W3.heap.size + 1, _, _, _, _, rfl, rfl, me_store HL.out.1 HL.out.2.1 HL.out.2.2 H.out out⟩
              · go_simp
                have H0 := H
                replace H := hid (md_10 H.out (k' := W3.heap.size) (by first | rfl | simp) 24)
                refine hK.out _ _ ?_ (fun hHeld => ?_)
                · exact sm_low HS5.out H.out.low
                clear hK K
                try simp only [Act.put, List.setIfInBounds_toArray, List.set_cons_zero, List.set_cons_succ]
                refine late_ready (rs := [5]) (by kernel_rfl) (by simp) ?_
                refine lates_cons (o := { dst := some 53, op := Op.buildSlice 22 1 #[(0, Operand.tmp 52)], type := 22, pos := "law.go:74", after := #[{ on := 4, ground := Ground.data }], guard := none }) rfl (fun K hK => ?_) (lates_nil)
                go_simp
                have H0 := H
                replace H := hid (md_5 H.out (g' := W3.heap.size + 1) (by first | rfl | simp) 31)
                refine hK.out _ _ ?_ (fun hHeld => ?_)
                · exact sm_low HS5.out H.out.low
                clear hK K
                try simp only [Act.put, List.setIfInBounds_toArray, List.set_cons_zero, List.set_cons_succ]
                obtain ⟨b6, o6, hA⟩ := md_app6 H.out hn9
                have HA6 := hid hA
                have hF := hA.fine
                clear hA
                refine late_ready (rs := [6]) (by kernel_rfl) (by simp) ?_
                refine lates_cons (o := { dst := some 54, op := Op.call { callee := Callee.builtin Builtin.append, args := #[Operand.tmp 51, Operand.tmp 53], argTypes := #[22, 22] }, type := 22, pos := "law.go:74", after := #[{ on := 3, ground := Ground.data }, { on := 5, ground := Ground.data }, { on := 3, ground := Ground.chain }], guard := none }) rfl (fun K hK => ?_) (lates_nil)
                go_simp
                replace H := hid (md_6 H.out HA6.out)
                refine hK.out _ _ ?_ (fun hHeld => ?_)
                · exact sm_low HS5.out H.out.low
                clear hK K
                try simp only [Act.put, List.setIfInBounds_toArray, List.set_cons_zero, List.set_cons_succ]
                clear hF HA6
                generalize apA Try.prog #[22, 22] 22 ((W3.alloc (.cells #[.slice none 0 0, .int .i64 0] 24)).alloc (.cells #[.int .i64 u.op, .slice u.ai u.ni u.ci, .slice u.ap u.np u.cp] 31)) (.slice a3 n c3) (.slice (some ⟨W3.heap.size + 1, 0, none⟩) 1 1) = a6 at H hHeld ⊢
                generalize apC Try.prog #[22, 22] 22 ((W3.alloc (.cells #[.slice none 0 0, .int .i64 0] 24)).alloc (.cells #[.int .i64 u.op, .slice u.ai u.ni u.ci, .slice u.ap u.np u.cp] 31)) (.slice a3 n c3) (.slice (some ⟨W3.heap.size + 1, 0, none⟩) 1 1) = c6 at H hHeld ⊢
                generalize apW Try.prog #[22, 22] 22 ((W3.alloc (.cells #[.slice none 0 0, .int .i64 0] 24)).alloc (.cells #[.int .i64 u.op, .slice u.ai u.ni u.ci, .slice u.ap u.np u.cp] 31)) (.slice a3 n c3) (.slice (some ⟨W3.heap.size + 1, 0, none⟩) 1 1) = W6 at H hHeld ⊢
                refine late_take (i := 9) (oi := { dst := some 57, op := Op.build 24 #[(0, Operand.tmp 54), (1, Operand.tmp 56)], type := 24, pos := "law.go:74", after := #[{ on := 6, ground := Ground.data }, { on := 8, ground := Ground.data }], guard := none }) (v := ?_) rfl (by kernel_rfl) (by kernel_rfl) (by kernel_rfl) (by kernel_rfl) (fun _ _ _ h => h) (Or.inl ⟨by rfl, ?hy⟩) (by assumption) ?_
                case hy => (intro w hSw; (try dsimp only at hSw); go_simp; first | done | with_reducible rfl)
                try simp only [Act.put, List.setIfInBounds_toArray, List.set_cons_zero, List.set_cons_succ]
                refine late_ready (rs := [11]) (by kernel_rfl) (by simp) ?_
                obtain ⟨-, ⟨q0, q1⟩, ⟨q2, q3⟩, -⟩ := H.out.h10 rfl
                refine lates_last (o := { dst := none, op := Op.store 24 (Operand.tmp 6) (Operand.tmp 57), type := 0, pos := "law.go:74", after := #[{ on := 10, ground := Ground.data }, { on := 9, ground := Ground.data }, { on := 6, ground := Ground.chain }, { on := 0, ground := Ground.phase }, { on := 1, ground := Ground.phase }, { on := 2, ground := Ground.phase }, { on := 3, ground := Ground.phase }, { on := 4, ground := Ground.phase }, { on := 5, ground := Ground.phase }, { on := 6, ground := Ground.phase }, { on := 7, ground := Ground.phase }, { on := 8, ground := Ground.phase }, { on := 9, ground := Ground.phase }, { on := 10, ground := Ground.phase }], guard := none }) rfl (fun K hK => ?_)
                go_simp
                refine hK.out _ _ ?_
                clear hK K
                try simp only [Act.put, List.setIfInBounds_toArray, List.set_cons_zero, List.set_cons_succ]
                refine late_done (by kernel_rfl) ?_ _
                go_wp2_with fail
                go_meet
                case rel => exact ⟨_, W3.heap.size, _, _, _, _, rfl, rfl, me_store HL.out.1 HL.out.2.1 HL.out.2.2 H.out out⟩
            · go_simp
              have H0 := H
              replace H := hid (md_5d H.out (g' := wA.heap.size + 1) (by first | rfl | simp) 31)
              refine hK.out _ _ ?_ (fun hHeld => ?_)
              · exact sm_low HS5.out H.out.low
              clear hK K
              try simp only [Act.put, List.setIfInBounds_toArray, List.set_cons_zero, List.set_cons_succ]
              clear hF HA3
              obtain ⟨b3, o3, hA⟩ := md_app3 H.out HL.out.1.z hn9 (wA.heap.size)
              have HA3 := hid hA
              have hF := md_fine3 hA
              clear hA
              refine late_ready (rs := [3, 10]) (by kernel_rfl) (by simp) ?_
              refine lates_cons (o := { dst := some 51, op := Op.call { callee := Callee.builtin Builtin.append, args := #[Operand.tmp 48, Operand.tmp 50], argTypes := #[22, 22] }, type := 22, pos := "law.go:74", after := #[{ on := 0, ground := Ground.data }, { on := 2, ground := Ground.data }], guard := none }) rfl (fun K hK => ?_) (lates_cons (o := { dst := some 6, op := Op.alloc 24, type := 0, pos := "law.go:74", after := #[], guard := none }) rfl (fun K hK => ?_) (lates_nil))
              · go_simp
                replace H := hid (md_3 H.out HA3.out)
                refine hK.out _ _ ?_ (fun hHeld => ?_)
                · exact sm_low HS5.out H.out.low
                clear hK K
                try simp only [Act.put, List.setIfInBounds_toArray, List.set_cons_zero, List.set_cons_succ]
                clear hF HA3
                generalize apA Try.prog #[22, 22] 22 (((wA.alloc (.cells #[] 31)).alloc (.cells #[.int .i64 u.op, .slice u.ai u.ni u.ci, .slice u.ap u.np u.cp] 31)).drew) (.slice (some ⟨wA.heap.size, 0, none⟩) 0 0) (.slice ao n c) = a3 at H hHeld ⊢
                generalize apC Try.prog #[22, 22] 22 (((wA.alloc (.cells #[] 31)).alloc (.cells #[.int .i64 u.op, .slice u.ai u.ni u.ci, .slice u.ap u.np u.cp] 31)).drew) (.slice (some ⟨wA.heap.size, 0, none⟩) 0 0) (.slice ao n c) = c3 at H hHeld ⊢
                generalize apW Try.prog #[22, 22] 22 (((wA.alloc (.cells #[] 31)).alloc (.cells #[.int .i64 u.op, .slice u.ai u.ni u.ci, .slice u.ap u.np u.cp] 31)).drew) (.slice (some ⟨wA.heap.size, 0, none⟩) 0 0) (.slice ao n c) = W3 at H hHeld ⊢
                obtain ⟨b6, o6, hA⟩ := md_app6 H.out hn9
                have HA6 := hid hA
                have hF := hA.fine
                clear hA
                refine late_ready (rs := [6, 10]) (by kernel_rfl) (by simp) ?_
                refine lates_cons (o := { dst := some 54, op := Op.call { callee := Callee.builtin Builtin.append, args := #[Operand.tmp 51, Operand.tmp 53], argTypes := #[22, 22] }, type := 22, pos := "law.go:74", after := #[{ on := 3, ground := Ground.data }, { on := 5, ground := Ground.data }, { on := 3, ground := Ground.chain }], guard := none }) rfl (fun K hK => ?_) (lates_cons (o := { dst := some 6, op := Op.alloc 24, type := 0, pos := "law.go:74", after := #[], guard := none }) rfl (fun K hK => ?_) (lates_nil))
                · go_simp
                  replace H := hid (md_6 H.out HA6.out)
                  refine hK.out _ _ ?_ (fun hHeld => ?_)
                  · exact sm_low HS5.out H.out.low
                  clear hK K
                  try simp only [Act.put, List.setIfInBounds_toArray, List.set_cons_zero, List.set_cons_succ]
                  clear hF HA6
                  generalize apA Try.prog #[22, 22] 22 W3 (.slice a3 n c3) (.slice (some ⟨wA.heap.size + 1, 0, none⟩) 1 1) = a6 at H hHeld ⊢
                  generalize apC Try.prog #[22, 22] 22 W3 (.slice a3 n c3) (.slice (some ⟨wA.heap.size + 1, 0, none⟩) 1 1) = c6 at H hHeld ⊢
                  generalize apW Try.prog #[22, 22] 22 W3 (.slice a3 n c3) (.slice (some ⟨wA.heap.size + 1, 0, none⟩) 1 1) = W6 at H hHeld ⊢
                  refine late_take (i := 9) (oi := { dst := some 57, op := Op.build 24 #[(0, Operand.tmp 54), (1, Operand.tmp 56)], type := 24, pos := "law.go:74", after := #[{ on := 6, ground := Ground.data }, { on := 8, ground := Ground.data }], guard := none }) (v := ?_) rfl (by kernel_rfl) (by kernel_rfl) (by kernel_rfl) (by kernel_rfl) (fun _ _ _ h => h) (Or.inl ⟨by rfl, ?hy⟩) (by assumption) ?_
                  case hy => (intro w hSw; (try dsimp only at hSw); go_simp; first | done | with_reducible rfl)
                  try simp only [Act.put, List.setIfInBounds_toArray, List.set_cons_zero, List.set_cons_succ]
                  refine late_ready (rs := [10]) (by kernel_rfl) (by simp) ?_
                  refine lates_cons (o := { dst := some 6, op := Op.alloc 24, type := 0, pos := "law.go:74", after := #[], guard := none }) rfl (fun K hK => ?_) (lates_nil)
                  go_simp
                  have H0 := H
                  replace H := hid (md_10 H.out (k' := W6.heap.size) (by first | rfl | simp) 24)
                  refine hK.out _ _ ?_ (fun hHeld => ?_)
                  · exact sm_low HS5.out H.out.low
                  clear hK K
                  try simp only [Act.put, List.setIfInBounds_toArray, List.set_cons_zero, List.set_cons_succ]
                  refine late_ready (rs := [11]) (by kernel_rfl) (by simp) ?_
                  refine lates_last (o := { dst := none, op := Op.store 24 (Operand.tmp 6) (Operand.tmp 57), type := 0, pos := "law.go:74", after := #[{ on := 10, ground := Ground.data }, { on := 9, ground := Ground.data }, { on := 6, ground := Ground.chain }, { on := 0, ground := Ground.phase }, { on := 1, ground := Ground.phase }, { on := 2, ground := Ground.phase }, { on := 3, ground := Ground.phase }, { on := 4, ground := Ground.phase }, { on := 5, ground := Ground.phase }, { on := 6, ground := Ground.phase }, { on := 7, ground := Ground.phase }, { on := 8, ground := Ground.phase }, { on := 9, ground := Ground.phase }, { on := 10, ground := Ground.phase }], guard := none }) rfl (fun K hK => ?_)
                  go_simp
                  refine hK.out _ _ ?_
                  clear hK K
                  try simp only [Act.put, List.setIfInBounds_toArray, List.set_cons_zero, List.set_cons_succ]
                  refine late_done (by kernel_rfl) ?_ _
                  go_wp2_with fail
                  go_meet
                  case rel => exact ⟨_, W6.heap.size, _, _, _, _, rfl, rfl, me_fold HL.out.1 HL.out.2.1 HL.out.2.2 H0.out out _⟩
                · go_simp
                  have H0 := H
                  replace H := hid (md_10 H.out (k' := W3.heap.size) (by first | rfl | simp) 24)
                  refine hK.out _ _ ?_ (fun hHeld => ?_)
                  · exact sm_low HS5.out H.out.low
                  clear hK K
                  try simp only [Act.put, List.setIfInBounds_toArray, List.set_cons_zero, List.set_cons_succ]
                  clear hF HA6
                  obtain ⟨b6, o6, hA⟩ := md_app6 H.out hn9
                  have HA6 := hid hA
                  have hF := hA.fine
                  clear hA
                  refine late_ready (rs := [6]) (by kernel_rfl) (by simp) ?_
                  refine lates_cons (o := { dst := some 54, op := Op.call { callee := Callee.builtin Builtin.append, args := #[Operand.tmp 51, Operand.tmp 53], argTypes := #[22, 22] }, type := 22, pos := "law.go:74", after := #[{ on := 3, ground := Ground.data }, { on := 5, ground := Ground.data }, { on := 3, ground := Ground.chain }], guard := none }) rfl (fun K hK => ?_) (lates_nil)
                  go_simp
                  replace H := hid (md_6 H.out HA6.out)
                  refine hK.out _ _ ?_ (fun hHeld => ?_)
                  · exact sm_low HS5.out H.out.low
                  clear hK K
                  try simp only [Act.put, List.setIfInBounds_toArray, List.set_cons_zero, List.set_cons_succ]
                  clear hF HA6
                  generalize apA Try.prog #[22, 22] 22 (W3.alloc (.cells #[.slice none 0 0, .int .i64 0] 24)) (.slice a3 n c3) (.slice (some ⟨wA.heap.size + 1, 0, none⟩) 1 1) = a6 at H hHeld ⊢
                  generalize apC Try.prog #[22, 22] 22 (W3.alloc (.cells #[.slice none 0 0, .int .i64 0] 24)) (.slice a3 n c3) (.slice (some ⟨wA.heap.size + 1, 0, none⟩) 1 1) = c6 at H hHeld ⊢
                  generalize apW Try.prog #[22, 22] 22 (W3.alloc (.cells #[.slice none 0 0, .int .i64 0] 24)) (.slice a3 n c3) (.slice (some ⟨wA.heap.size + 1, 0, none⟩) 1 1) = W6 at H hHeld ⊢
                  refine late_take (i := 9) (oi := { dst := some 57, op := Op.build 24 #[(0, Operand.tmp 54), (1, Operand.tmp 56)], type := 24, pos := "law.go:74", after := #[{ on := 6, ground := Ground.data }, { on := 8, ground := Ground.data }], guard := none }) (v := ?_) rfl (by kernel_rfl) (by kernel_rfl) (by kernel_rfl) (by kernel_rfl) (fun _ _ _ h => h) (Or.inl ⟨by rfl, ?hy⟩) (by assumption) ?_
                  case hy => (intro w hSw; (try dsimp only at hSw); go_simp; first | done | with_reducible rfl)
                  try simp only [Act.put, List.setIfInBounds_toArray, List.set_cons_zero, List.set_cons_succ]
                  refine late_ready (rs := [11]) (by kernel_rfl) (by simp) ?_
                  obtain ⟨-, ⟨q0, q1⟩, ⟨q2, q3⟩, -⟩ := H.out.h10 rfl
                  refine lates_last (o := { dst := none, op := Op.store 24 (Operand.tmp 6) (Operand.tmp 57), type := 0, pos := "law.go:74", after := #[{ on := 10, ground := Ground.data }, { on := 9, ground := Ground.data }, { on := 6, ground := Ground.chain }, { on := 0, ground := Ground.phase }, { on := 1, ground := Ground.phase }, { on := 2, ground := Ground.phase }, { on := 3, ground := Ground.phase }, { on := 4, ground := Ground.phase }, { on := 5, ground := Ground.phase }, { on := 6, ground := Ground.phase }, { on := 7, ground := Ground.phase }, { on := 8, ground := Ground.phase }, { on := 9, ground := Ground.phase }, { on := 10, ground := Ground.phase }], guard := none }) rfl (fun K hK => ?_)
                  go_simp
                  refine hK.out _ _ ?_
                  clear hK K
                  try simp only [Act.put, List.setIfInBounds_toArray, List.set_cons_zero, List.set_cons_succ]
                  refine late_done (by kernel_rfl) ?_ _
                  go_wp2_with fail
                  go_meet
                  case rel => exact ⟨_, W3.heap.size, _, _, _, _, rfl, rfl, me_store HL.out.1 HL.out.2.1 HL.out.2.2 H.out out⟩
              · go_simp
                have H0 := H
                replace H := hid (md_10d H.out (k' := wA.heap.size + 1 + 1) (by first | rfl | simp) 24)
                refine hK.out _ _ ?_ (fun hHeld => ?_)
                · exact sm_low HS5.out H.out.low
                clear hK K
                try simp only [Act.put, List.setIfInBounds_toArray, List.set_cons_zero, List.set_cons_succ]
                clear hF HA3
                obtain ⟨b3, o3, hA⟩ := md_app3 H.out HL.out.1.z hn9 (wA.heap.size)
                have HA3 := hid hA
                have hF := md_fine3 hA
                clear hA
                refine late_ready (rs := [3]) (by kernel_rfl) (by simp) ?_
                refine lates_cons (o := { dst := some 51, op := Op.call { callee := Callee.builtin Builtin.append, args := #[Operand.tmp 48, Operand.tmp 50], argTypes := #[22, 22] }, type := 22, pos := "law.go:74", after := #[{ on := 0, ground := Ground.data }, { on := 2, ground := Ground.data }], guard := none }) rfl (fun K hK => ?_) (lates_nil)
                go_simp
                replace H := hid (md_3 H.out HA3.out)
                refine hK.out _ _ ?_ (fun hHeld => ?_)
                · exact sm_low HS5.out H.out.low
                clear hK K
                try simp only [Act.put, List.setIfInBounds_toArray, List.set_cons_zero, List.set_cons_succ]
                clear hF HA3
                generalize apA Try.prog #[22, 22] 22 ((((wA.alloc (.cells #[] 31)).alloc (.cells #[.int .i64 u.op, .slice u.ai u.ni u.ci, .slice u.ap u.np u.cp] 31)).alloc (.cells #[.slice none 0 0, .int .i64 0] 24)).drew) (.slice (some ⟨wA.heap.size, 0, none⟩) 0 0) (.slice ao n c) = a3 at H hHeld ⊢
                generalize apC Try.prog #[22, 22] 22 ((((wA.alloc (.cells #[] 31)).alloc (.cells #[.int .i64 u.op, .slice u.ai u.ni u.ci, .slice u.ap u.np u.cp] 31)).alloc (.cells #[.slice none 0 0, .int .i64 0] 24)).drew) (.slice (some ⟨wA.heap.size, 0, none⟩) 0 0) (.slice ao n c) = c3 at H hHeld ⊢
                generalize apW Try.prog #[22, 22] 22 ((((wA.alloc (.cells #[] 31)).alloc (.cells #[.int .i64 u.op, .slice u.ai u.ni u.ci, .slice u.ap u.np u.cp] 31)).alloc (.cells #[.slice none 0 0, .int .i64 0] 24)).drew) (.slice (some ⟨wA.heap.size, 0, none⟩) 0 0) (.slice ao n c) = W3 at H hHeld ⊢
                obtain ⟨b6, o6, hA⟩ := md_app6 H.out hn9
                have HA6 := hid hA
                have hF := hA.fine
                clear hA
                refine late_ready (rs := [6]) (by kernel_rfl) (by simp) ?_
                refine lates_cons (o := { dst := some 54, op := Op.call { callee := Callee.builtin Builtin.append, args := #[Operand.tmp 51, Operand.tmp 53], argTypes := #[22, 22] }, type := 22, pos := "law.go:74", after := #[{ on := 3, ground := Ground.data }, { on := 5, ground := Ground.data }, { on := 3, ground := Ground.chain }], guard := none }) rfl (fun K hK => ?_) (lates_nil)
                go_simp
                replace H := hid (md_6 H.out HA6.out)
                refine hK.out _ _ ?_ (fun hHeld => ?_)
                · exact sm_low HS5.out H.out.low
                clear hK K
                try simp only [Act.put, List.setIfInBounds_toArray, List.set_cons_zero, List.set_cons_succ]
                clear hF HA6
                generalize apA Try.prog #[22, 22] 22 W3 (.slice a3 n c3) (.slice (some ⟨wA.heap.size + 1, 0, none⟩) 1 1) = a6 at H hHeld ⊢
                generalize apC Try.prog #[22, 22] 22 W3 (.slice a3 n c3) (.slice (some ⟨wA.heap.size + 1, 0, none⟩) 1 1) = c6 at H hHeld ⊢
                generalize apW Try.prog #[22, 22] 22 W3 (.slice a3 n c3) (.slice (some ⟨wA.heap.size + 1, 0, none⟩) 1 1) = W6 at H hHeld ⊢
                refine late_take (i := 9) (oi := { dst := some 57, op := Op.build 24 #[(0, Operand.tmp 54), (1, Operand.tmp 56)], type := 24, pos := "law.go:74", after := #[{ on := 6, ground := Ground.data }, { on := 8, ground := Ground.data }], guard := none }) (v := ?_) rfl (by kernel_rfl) (by kernel_rfl) (by kernel_rfl) (by kernel_rfl) (fun _ _ _ h => h) (Or.inl ⟨by rfl, ?hy⟩) (by assumption) ?_
                case hy => (intro w hSw; (try dsimp only at hSw); go_simp; first | done | with_reducible rfl)
                try simp only [Act.put, List.setIfInBounds_toArray, List.set_cons_zero, List.set_cons_succ]
                refine late_ready (rs := [11]) (by kernel_rfl) (by simp) ?_
                obtain ⟨-, ⟨q0, q1⟩, ⟨q2, q3⟩, -⟩ := H.out.h10 rfl
                refine lates_last (o := { dst := none, op := Op.store 24 (Operand.tmp 6) (Operand.tmp 57), type := 0, pos := "law.go:74", after := #[{ on := 10, ground := Ground.data }, { on := 9, ground := Ground.data }, { on := 6, ground := Ground.chain }, { on := 0, ground := Ground.phase }, { on := 1, ground := Ground.phase }, { on := 2, ground := Ground.phase }, { on := 3, ground := Ground.phase }, { on := 4, ground := Ground.phase }, { on := 5, ground := Ground.phase }, { on := 6, ground := Ground.phase }, { on := 7, ground := Ground.phase }, { on := 8, ground := Ground.phase }, { on := 9, ground := Ground.phase }, { on := 10, ground := Ground.phase }], guard := none }) rfl (fun K hK => ?_)
                go_simp
                refine hK.out _ _ ?_
                clear hK K
                try simp only [Act.put, List.setIfInBounds_toArray, List.set_cons_zero, List.set_cons_succ]
                refine late_done (by kernel_rfl) ?_ _
                go_wp2_with fail
                go_meet
                case rel => exact ⟨_, wA.heap.size + 1 + 1, _, _, _, _, rfl, rfl, me_store HL.out.1 HL.out.2.1 HL.out.2.2 H.out out⟩
            · go_simp
              have H0 := H
              replace H := hid (md_10d H.out (k' := wA.heap.size + 1) (by first | rfl | simp) 24)
              refine hK.out _ _ ?_ (fun hHeld => ?_)
              · exact sm_low HS5.out H.out.low
              clear hK K
              try simp only [Act.put, List.setIfInBounds_toArray, List.set_cons_zero, List.set_cons_succ]
              clear hF HA3
              obtain ⟨b3, o3, hA⟩ := md_app3 H.out HL.out.1.z hn9 (wA.heap.size)
              have HA3 := hid hA
              have hF := md_fine3 hA
              clear hA
              refine late_ready (rs := [3, 5]) (by kernel_rfl) (by simp) ?_
              refine lates_cons (o := { dst := some 51, op := Op.call { callee := Callee.builtin Builtin.append, args := #[Operand.tmp 48, Operand.tmp 50], argTypes := #[22, 22] }, type := 22, pos := "law.go:74", after := #[{ on := 0, ground := Ground.data }, { on := 2, ground := Ground.data }], guard := none }) rfl (fun K hK => ?_) (lates_cons (o := { dst := some 53, op := Op.buildSlice 22 1 #[(0, Operand.tmp 52)], type := 22, pos := "law.go:74", after := #[{ on := 4, ground := Ground.data }], guard := none }) rfl (fun K hK => ?_) (lates_nil))
              · go_simp
                replace H := hid (md_3 H.out HA3.out)
                refine hK.out _ _ ?_ (fun hHeld => ?_)
                · exact sm_low HS5.out H.out.low
                clear hK K
                try simp only [Act.put, List.setIfInBounds_toArray, List.set_cons_zero, List.set_cons_succ]
                clear hF HA3
                generalize apA Try.prog #[22, 22] 22 (((wA.alloc (.cells #[] 31)).alloc (.cells #[.slice none 0 0, .int .i64 0] 24)).drew) (.slice (some ⟨wA.heap.size, 0, none⟩) 0 0) (.slice ao n c) = a3 at H hHeld ⊢
                generalize apC Try.prog #[22, 22] 22 (((wA.alloc (.cells #[] 31)).alloc (.cells #[.slice none 0 0, .int .i64 0] 24)).drew) (.slice (some ⟨wA.heap.size, 0, none⟩) 0 0) (.slice ao n c) = c3 at H hHeld ⊢
                generalize apW Try.prog #[22, 22] 22 (((wA.alloc (.cells #[] 31)).alloc (.cells #[.slice none 0 0, .int .i64 0] 24)).drew) (.slice (some ⟨wA.heap.size, 0, none⟩) 0 0) (.slice ao n c) = W3 at H hHeld ⊢
                refine late_ready (rs := [5]) (by kernel_rfl) (by simp) ?_
                refine lates_cons (o := { dst := some 53, op := Op.buildSlice 22 1 #[(0, Operand.tmp 52)], type := 22, pos := "law.go:74", after := #[{ on := 4, ground := Ground.data }], guard := none }) rfl (fun K hK => ?_) (lates_nil)
                go_simp
                have H0 := H
                replace H := hid (md_5 H.out (g' := W3.heap.size) (by first | rfl | simp) 31)
                refine hK.out _ _ ?_ (fun hHeld => ?_)
                · exact sm_low HS5.out H.out.low
                clear hK K
                try simp only [Act.put, List.setIfInBounds_toArray, List.set_cons_zero, List.set_cons_succ]
                obtain ⟨b6, o6, hA⟩ := md_app6 H.out hn9
                have HA6 := hid hA
                have hF := hA.fine
                clear hA
                refine late_ready (rs := [6]) (by kernel_rfl) (by simp) ?_
                refine lates_cons (o := { dst := some 54, op := Op.call { callee := Callee.builtin Builtin.append, args := #[Operand.tmp 51, Operand.tmp 53], argTypes := #[22, 22] }, type := 22, pos := "law.go:74", after := #[{ on := 3, ground := Ground.data }, { on := 5, ground := Ground.data }, { on := 3, ground := Ground.chain }], guard := none }) rfl (fun K hK => ?_) (lates_nil)
                go_simp
                replace H := hid (md_6 H.out HA6.out)
                refine hK.out _ _ ?_ (fun hHeld => ?_)
                · exact sm_low HS5.out H.out.low
                clear hK K
                try simp only [Act.put, List.setIfInBounds_toArray, List.set_cons_zero, List.set_cons_succ]
                clear hF HA6
                generalize apA Try.prog #[22, 22] 22 (W3.alloc (.cells #[.int .i64 u.op, .slice u.ai u.ni u.ci, .slice u.ap u.np u.cp] 31)) (.slice a3 n c3) (.slice (some ⟨W3.heap.size, 0, none⟩) 1 1) = a6 at H hHeld ⊢
                generalize apC Try.prog #[22, 22] 22 (W3.alloc (.cells #[.int .i64 u.op, .slice u.ai u.ni u.ci, .slice u.ap u.np u.cp] 31)) (.slice a3 n c3) (.slice (some ⟨W3.heap.size, 0, none⟩) 1 1) = c6 at H hHeld ⊢
                generalize apW Try.prog #[22, 22] 22 (W3.alloc (.cells #[.int .i64 u.op, .slice u.ai u.ni u.ci, .slice u.ap u.np u.cp] 31)) (.slice a3 n c3) (.slice (some ⟨W3.heap.size, 0, none⟩) 1 1) = W6 at H hHeld ⊢
                refine late_take (i := 9) (oi := { dst := some 57, op := Op.build 24 #[(0, Operand.tmp 54), (1, Operand.tmp 56)], type := 24, pos := "law.go:74", after := #[{ on := 6, ground := Ground.data }, { on := 8, ground := Ground.data }], guard := none }) (v := ?_) rfl (by kernel_rfl) (by kernel_rfl) (by kernel_rfl) (by kernel_rfl) (fun _ _ _ h => h) (Or.inl ⟨by rfl, ?hy⟩) (by assumption) ?_
                case hy => (intro w hSw; (try dsimp only at hSw); go_simp; first | done | with_reducible rfl)
                try simp only [Act.put, List.setIfInBounds_toArray, List.set_cons_zero, List.set_cons_succ]
                refine late_ready (rs := [11]) (by kernel_rfl) (by simp) ?_
                obtain ⟨-, ⟨q0, q1⟩, ⟨q2, q3⟩, -⟩ := H.out.h10 rfl
                refine lates_last (o := { dst := none, op := Op.store 24 (Operand.tmp 6) (Operand.tmp 57), type := 0, pos := "law.go:74", after := #[{ on := 10, ground := Ground.data }, { on := 9, ground := Ground.data }, { on := 6, ground := Ground.chain }, { on := 0, ground := Ground.phase }, { on := 1, ground := Ground.phase }, { on := 2, ground := Ground.phase }, { on := 3, ground := Ground.phase }, { on := 4, ground := Ground.phase }, { on := 5, ground := Ground.phase }, { on := 6, ground := Ground.phase }, { on := 7, ground := Ground.phase }, { on := 8, ground := Ground.phase }, { on := 9, ground := Ground.phase }, { on := 10, ground := Ground.phase }], guard := none }) rfl (fun K hK => ?_)
                go_simp
                refine hK.out _ _ ?_
                clear hK K
                try simp only [Act.put, List.setIfInBounds_toArray, List.set_cons_zero, List.set_cons_succ]
                refine late_done (by kernel_rfl) ?_ _
                go_wp2_with fail
                go_meet
                case rel => exact ⟨_, wA.heap.size + 1, _, _, _, _, rfl, rfl, me_store HL.out.1 HL.out.2.1 HL.out.2.2 H.out out⟩
              · go_simp
                have H0 := H
                replace H := hid (md_5d H.out (g' := wA.heap.size + 1 + 1) (by first | rfl | simp) 31)
                refine hK.out _ _ ?_ (fun hHeld => ?_)
                · exact sm_low HS5.out H.out.low
                clear hK K
                try simp only [Act.put, List.setIfInBounds_toArray, List.set_cons_zero, List.set_cons_succ]
                clear hF HA3
                obtain ⟨b3, o3, hA⟩ := md_app3 H.out HL.out.1.z hn9 (wA.heap.size)
                have HA3 := hid hA
                have hF := md_fine3 hA
                clear hA
                refine late_ready (rs := [3]) (by kernel_rfl) (by simp) ?_
                refine lates_cons (o := { dst := some 51, op := Op.call { callee := Callee.builtin Builtin.append, args := #[Operand.tmp 48, Operand.tmp 50], argTypes := #[22, 22] }, type := 22, pos := "law.go:74", after := #[{ on := 0, ground := Ground.data }, { on := 2, ground := Ground.data }], guard := none }) rfl (fun K hK => ?_) (lates_nil)
                go_simp
                replace H := hid (md_3 H.out HA3.out)
                refine hK.out _ _ ?_ (fun hHeld => ?_)
                · exact sm_low HS5.out H.out.low
                clear hK K
                try simp only [Act.put, List.setIfInBounds_toArray, List.set_cons_zero, List.set_cons_succ]
                clear hF HA3
                generalize apA Try.prog #[22, 22] 22 ((((wA.alloc (.cells #[] 31)).alloc (.cells #[.slice none 0 0, .int .i64 0] 24)).alloc (.cells #[.int .i64 u.op, .slice u.ai u.ni u.ci, .slice u.ap u.np u.cp] 31)).drew) (.slice (some ⟨wA.heap.size, 0, none⟩) 0 0) (.slice ao n c) = a3 at H hHeld ⊢
                generalize apC Try.prog #[22, 22] 22 ((((wA.alloc (.cells #[] 31)).alloc (.cells #[.slice none 0 0, .int .i64 0] 24)).alloc (.cells #[.int .i64 u.op, .slice u.ai u.ni u.ci, .slice u.ap u.np u.cp] 31)).drew) (.slice (some ⟨wA.heap.size, 0, none⟩) 0 0) (.slice ao n c) = c3 at H hHeld ⊢
                generalize apW Try.prog #[22, 22] 22 ((((wA.alloc (.cells #[] 31)).alloc (.cells #[.slice none 0 0, .int .i64 0] 24)).alloc (.cells #[.int .i64 u.op, .slice u.ai u.ni u.ci, .slice u.ap u.np u.cp] 31)).drew) (.slice (some ⟨wA.heap.size, 0, none⟩) 0 0) (.slice ao n c) = W3 at H hHeld ⊢
                obtain ⟨b6, o6, hA⟩ := md_app6 H.out hn9
                have HA6 := hid hA
                have hF := hA.fine
                clear hA
                refine late_ready (rs := [6]) (by kernel_rfl) (by simp) ?_
                refine lates_cons (o := { dst := some 54, op := Op.call { callee := Callee.builtin Builtin.append, args := #[Operand.tmp 51, Operand.tmp 53], argTypes := #[22, 22] }, type := 22, pos := "law.go:74", after := #[{ on := 3, ground := Ground.data }, { on := 5, ground := Ground.data }, { on := 3, ground := Ground.chain }], guard := none }) rfl (fun K hK => ?_) (lates_nil)
                go_simp
                replace H := hid (md_6 H.out HA6.out)
                refine hK.out _ _ ?_ (fun hHeld => ?_)
                · exact sm_low HS5.out H.out.low
                clear hK K
                try simp only [Act.put, List.setIfInBounds_toArray, List.set_cons_zero, List.set_cons_succ]
                clear hF HA6
                generalize apA Try.prog #[22, 22] 22 W3 (.slice a3 n c3) (.slice (some ⟨wA.heap.size + 1 + 1, 0, none⟩) 1 1) = a6 at H hHeld ⊢
                generalize apC Try.prog #[22, 22] 22 W3 (.slice a3 n c3) (.slice (some ⟨wA.heap.size + 1 + 1, 0, none⟩) 1 1) = c6 at H hHeld ⊢
                generalize apW Try.prog #[22, 22] 22 W3 (.slice a3 n c3) (.slice (some ⟨wA.heap.size + 1 + 1, 0, none⟩) 1 1) = W6 at H hHeld ⊢
                refine late_take (i := 9) (oi := { dst := some 57, op := Op.build 24 #[(0, Operand.tmp 54), (1, Operand.tmp 56)], type := 24, pos := "law.go:74", after := #[{ on := 6, ground := Ground.data }, { on := 8, ground := Ground.data }], guard := none }) (v := ?_) rfl (by kernel_rfl) (by kernel_rfl) (by kernel_rfl) (by kernel_rfl) (fun _ _ _ h => h) (Or.inl ⟨by rfl, ?hy⟩) (by assumption) ?_
                case hy => (intro w hSw; (try dsimp only at hSw); go_simp; first | done | with_reducible rfl)
                try simp only [Act.put, List.setIfInBounds_toArray, List.set_cons_zero, List.set_cons_succ]
                refine late_ready (rs := [11]) (by kernel_rfl) (by simp) ?_
                obtain ⟨-, ⟨q0, q1⟩, ⟨q2, q3⟩, -⟩ := H.out.h10 rfl
                refine lates_last (o := { dst := none, op := Op.store 24 (Operand.tmp 6) (Operand.tmp 57), type := 0, pos := "law.go:74", after := #[{ on := 10, ground := Ground.data }, { on := 9, ground := Ground.data }, { on := 6, ground := Ground.chain }, { on := 0, ground := Ground.phase }, { on := 1, ground := Ground.phase }, { on := 2, ground := Ground.phase }, { on := 3, ground := Ground.phase }, { on := 4, ground := Ground.phase }, { on := 5, ground := Ground.phase }, { on := 6, ground := Ground.phase }, { on := 7, ground := Ground.phase }, { on := 8, ground := Ground.phase }, { on := 9, ground := Ground.phase }, { on := 10, ground := Ground.phase }], guard := none }) rfl (fun K hK => ?_)
                go_simp
                refine hK.out _ _ ?_
                clear hK K
                try simp only [Act.put, List.setIfInBounds_toArray, List.set_cons_zero, List.set_cons_succ]
                refine late_done (by kernel_rfl) ?_ _
                go_wp2_with fail
                go_meet
                case rel => exact ⟨_, wA.heap.size + 1, _, _, _, _, rfl, rfl, me_store HL.out.1 HL.out.2.1 HL.out.2.2 H.out out⟩
          · go_simp
            have H0 := H
            replace H := hid (md_5d H.out (g' := wA.heap.size) (by first | rfl | simp) 31)
            refine hK.out _ _ ?_ (fun hHeld => ?_)
            · exact sm_low HS5.out H.out.low
            clear hK K
            try simp only [Act.put, List.setIfInBounds_toArray, List.set_cons_zero, List.set_cons_succ]
            refine late_ready (rs := [0, 10]) (by kernel_rfl) (by simp) ?_
            refine lates_cons (o := { dst := some 48, op := Op.buildSlice 22 0 #[], type := 22, pos := "law.go:74", after := #[], guard := none }) rfl (fun K hK => ?_) (lates_cons (o := { dst := some 6, op := Op.alloc 24, type := 0, pos := "law.go:74", after := #[], guard := none }) rfl (fun K hK => ?_) (lates_nil))
            · go_simp
              have H0 := H
              replace H := hid (md_below H.out (md_b0 (.cells #[] 31)))
              refine hK.out _ _ ?_ (fun hHeld => ?_)
              · exact sm_low HS5.out H.out.low
              clear hK K
              try simp only [Act.put, List.setIfInBounds_toArray, List.set_cons_zero, List.set_cons_succ]
              obtain ⟨b3, o3, hA⟩ := md_app3 H.out HL.out.1.z hn9 (wA.heap.size + 1)
              have HA3 := hid hA
              have hF := md_fine3 hA
              clear hA
              refine late_ready (rs := [3, 10]) (by kernel_rfl) (by simp) ?_
              refine lates_cons (o := { dst := some 51, op := Op.call { callee := Callee.builtin Builtin.append, args := #[Operand.tmp 48, Operand.tmp 50], argTypes := #[22, 22] }, type := 22, pos := "law.go:74", after := #[{ on := 0, ground := Ground.data }, { on := 2, ground := Ground.data }], guard := none }) rfl (fun K hK => ?_) (lates_cons (o := { dst := some 6, op := Op.alloc 24, type := 0, pos := "law.go:74", after := #[], guard := none }) rfl (fun K hK => ?_) (lates_nil))
              · go_simp
                replace H := hid (md_3 H.out HA3.out)
                refine hK.out _ _ ?_ (fun hHeld => ?_)
                · exact sm_low HS5.out H.out.low
                clear hK K
                try simp only [Act.put, List.setIfInBounds_toArray, List.set_cons_zero, List.set_cons_succ]
                clear hF HA3
                generalize apA Try.prog #[22, 22] 22 (((wA.alloc (.cells #[.int .i64 u.op, .slice u.ai u.ni u.ci, .slice u.ap u.np u.cp] 31)).alloc (.cells #[] 31)).drew) (.slice (some ⟨wA.heap.size + 1, 0, none⟩) 0 0) (.slice ao n c) = a3 at H hHeld ⊢
                generalize apC Try.prog #[22, 22] 22 (((wA.alloc (.cells #[.int .i64 u.op, .slice u.ai u.ni u.ci, .slice u.ap u.np u.cp] 31)).alloc (.cells #[] 31)).drew) (.slice (some ⟨wA.heap.size + 1, 0, none⟩) 0 0) (.slice ao n c) = c3 at H hHeld ⊢
                generalize apW Try.prog #[22, 22] 22 (((wA.alloc (.cells #[.int .i64 u.op, .slice u.ai u.ni u.ci, .slice u.ap u.np u.cp] 31)).alloc (.cells #[] 31)).drew) (.slice (some ⟨wA.heap.size + 1, 0, none⟩) 0 0) (.slice ao n c) = W3 at H hHeld ⊢
                obtain ⟨b6, o6, hA⟩ := md_app6 H.out hn9
                have HA6 := hid hA
                have hF := hA.fine
                clear hA
                refine late_ready (rs := [6, 10]) (by kernel_rfl) (by simp) ?_
                refine lates_cons (o := { dst := some 54, op := Op.call { callee := Callee.builtin Builtin.append, args := #[Operand.tmp 51, Operand.tmp 53], argTypes := #[22, 22] }, type := 22, pos := "law.go:74", after := #[{ on := 3, ground := Ground.data }, { on := 5, ground := Ground.data }, { on := 3, ground := Ground.chain }], guard := none }) rfl (fun K hK => ?_) (lates_cons (o := { dst := some 6, op := Op.alloc 24, type := 0, pos := "law.go:74", after := #[], guard := none }) rfl (fun K hK => ?_) (lates_nil))
                · go_simp
                  replace H := hid (md_6 H.out HA6.out)
                  refine hK.out _ _ ?_ (fun hHeld => ?_)
                  · exact sm_low HS5.out H.out.low
                  clear hK K
                  try simp only [Act.put, List.setIfInBounds_toArray, List.set_cons_zero, List.set_cons_succ]
                  clear hF HA6
                  generalize apA Try.prog #[22, 22] 22 W3 (.slice a3 n c3) (.slice (some ⟨wA.heap.size, 0, none⟩) 1 1) = a6 at H hHeld ⊢
                  generalize apC Try.prog #[22, 22] 22 W3 (.slice a3 n c3) (.slice (some ⟨wA.heap.size, 0, none⟩) 1 1) = c6 at H hHeld ⊢
                  generalize apW Try.prog #[22, 22] 22 W3 (.slice a3 n c3) (.slice (some ⟨wA.heap.size, 0, none⟩) 1 1) = W6 at H hHeld ⊢
                  refine late_take (i := 9) (oi := { dst := some 57, op := Op.build 24 #[(0, Operand.tmp 54), (1, Operand.tmp 56)], type := 24, pos := "law.go:74", after := #[{ on := 6, ground := Ground.data }, { on := 8, ground := Ground.data }], guard := none }) (v := ?_) rfl (by kernel_rfl) (by kernel_rfl) (by kernel_rfl) (by kernel_rfl) (fun _ _ _ h => h) (Or.inl ⟨by rfl, ?hy⟩) (by assumption) ?_
                  case hy => (intro w hSw; (try dsimp only at hSw); go_simp; first | done | with_reducible rfl)
                  try simp only [Act.put, List.setIfInBounds_toArray, List.set_cons_zero, List.set_cons_succ]
                  refine late_ready (rs := [10]) (by kernel_rfl) (by simp) ?_
                  refine lates_cons (o := { dst := some 6, op := Op.alloc 24, type := 0, pos := "law.go:74", after := #[], guard := none }) rfl (fun K hK => ?_) (lates_nil)
                  go_simp
                  have H0 := H
                  replace H := hid (md_10 H.out (k' := W6.heap.size) (by first | rfl | simp) 24)
                  refine hK.out _ _ ?_ (fun hHeld => ?_)
                  · exact sm_low HS5.out H.out.low
                  clear hK K
                  try simp only [Act.put, List.setIfInBounds_toArray, List.set_cons_zero, List.set_cons_succ]
                  refine late_ready (rs := [11]) (by kernel_rfl) (by simp) ?_
                  refine lates_last (o := { dst := none, op := Op.store 24 (Operand.tmp 6) (Operand.tmp 57), type := 0, pos := "law.go:74", after := #[{ on := 10, ground := Ground.data }, { on := 9, ground := Ground.data }, { on := 6, ground := Ground.chain }, { on := 0, ground := Ground.phase }, { on := 1, ground := Ground.phase }, { on := 2, ground := Ground.phase }, { on := 3, ground := Ground.phase }, { on := 4, ground := Ground.phase }, { on := 5, ground := Ground.phase }, { on := 6, ground := Ground.phase }, { on := 7, ground := Ground.phase }, { on := 8, ground := Ground.phase }, { on := 9, ground := Ground.phase }, { on := 10, ground := Ground.phase }], guard := none }) rfl (fun K hK => ?_)
                  go_simp
                  refine hK.out _ _ ?_
                  clear hK K
                  try simp only [Act.put, List.setIfInBounds_toArray, List.set_cons_zero, List.set_cons_succ]
                  refine late_done (by kernel_rfl) ?_ _
                  go_wp2_with fail
                  go_meet
                  case rel => exact ⟨_, W6.heap.size, _, _, _, _, rfl, rfl, me_fold HL.out.1 HL.out.2.1 HL.out.2.2 H0.out out _⟩
                · go_simp
                  have H0 := H
                  replace H := hid (md_10 H.out (k' := W3.heap.size) (by first | rfl | simp) 24)
                  refine hK.out _ _ ?_ (fun hHeld => ?_)
                  · exact sm_low HS5.out H.out.low
                  clear hK K
                  try simp only [Act.put, List.setIfInBounds_toArray, List.set_cons_zero, List.set_cons_succ]
                  clear hF HA6
                  obtain ⟨b6, o6, hA⟩ := md_app6 H.out hn9
                  have HA6 := hid hA
                  have hF := hA.fine
                  clear hA
                  refine late_ready (rs := [6]) (by kernel_rfl) (by simp) ?_
                  refine lates_cons (o := { dst := some 54, op := Op.call { callee := Callee.builtin Builtin.append, args := #[Operand.tmp 51, Operand.tmp 53], argTypes := #[22, 22] }, type := 22, pos := "law.go:74", after := #[{ on := 3, ground := Ground.data }, { on := 5, ground := Ground.data }, { on := 3, ground := Ground.chain }], guard := none }) rfl (fun K hK => ?_) (lates_nil)
                  go_simp
                  replace H := hid (md_6 H.out HA6.out)
                  refine hK.out _ _ ?_ (fun hHeld => ?_)
                  · exact sm_low HS5.out H.out.low
                  clear hK K
                  try simp only [Act.put, List.setIfInBounds_toArray, List.set_cons_zero, List.set_cons_succ]
                  clear hF HA6
                  generalize apA Try.prog #[22, 22] 22 (W3.alloc (.cells #[.slice none 0 0, .int .i64 0] 24)) (.slice a3 n c3) (.slice (some ⟨wA.heap.size, 0, none⟩) 1 1) = a6 at H hHeld ⊢
                  generalize apC Try.prog #[22, 22] 22 (W3.alloc (.cells #[.slice none 0 0, .int .i64 0] 24)) (.slice a3 n c3) (.slice (some ⟨wA.heap.size, 0, none⟩) 1 1) = c6 at H hHeld ⊢
                  generalize apW Try.prog #[22, 22] 22 (W3.alloc (.cells #[.slice none 0 0, .int .i64 0] 24)) (.slice a3 n c3) (.slice (some ⟨wA.heap.size, 0, none⟩) 1 1) = W6 at H hHeld ⊢
                  refine late_take (i := 9) (oi := { dst := some 57, op := Op.build 24 #[(0, Operand.tmp 54), (1, Operand.tmp 56)], type := 24, pos := "law.go:74", after := #[{ on := 6, ground := Ground.data }, { on := 8, ground := Ground.data }], guard := none }) (v := ?_) rfl (by kernel_rfl) (by kernel_rfl) (by kernel_rfl) (by kernel_rfl) (fun _ _ _ h => h) (Or.inl ⟨by rfl, ?hy⟩) (by assumption) ?_
                  case hy => (intro w hSw; (try dsimp only at hSw); go_simp; first | done | with_reducible rfl)
                  try simp only [Act.put, List.setIfInBounds_toArray, List.set_cons_zero, List.set_cons_succ]
                  refine late_ready (rs := [11]) (by kernel_rfl) (by simp) ?_
                  obtain ⟨-, ⟨q0, q1⟩, ⟨q2, q3⟩, -⟩ := H.out.h10 rfl
                  refine lates_last (o := { dst := none, op := Op.store 24 (Operand.tmp 6) (Operand.tmp 57), type := 0, pos := "law.go:74", after := #[{ on := 10, ground := Ground.data }, { on := 9, ground := Ground.data }, { on := 6, ground := Ground.chain }, { on := 0, ground := Ground.phase }, { on := 1, ground := Ground.phase }, { on := 2, ground := Ground.phase }, { on := 3, ground := Ground.phase }, { on := 4, ground := Ground.phase }, { on := 5, ground := Ground.phase }, { on := 6, ground := Ground.phase }, { on := 7, ground := Ground.phase }, { on := 8, ground := Ground.phase }, { on := 9, ground := Ground.phase }, { on := 10, ground := Ground.phase }], guard := none }) rfl (fun K hK => ?_)
                  go_simp
                  refine hK.out _ _ ?_
                  clear hK K
                  try simp only [Act.put, List.setIfInBounds_toArray, List.set_cons_zero, List.set_cons_succ]
                  refine late_done (by kernel_rfl) ?_ _
                  go_wp2_with fail
                  go_meet
                  case rel => exact ⟨_, W3.heap.size, _, _, _, _, rfl, rfl, me_store HL.out.1 HL.out.2.1 HL.out.2.2 H.out out⟩
              · go_simp
                have H0 := H
                replace H := hid (md_10d H.out (k' := wA.heap.size + 1 + 1) (by first | rfl | simp) 24)
                refine hK.out _ _ ?_ (fun hHeld => ?_)
                · exact sm_low HS5.out H.out.low
                clear hK K
                try simp only [Act.put, List.setIfInBounds_toArray, List.set_cons_zero, List.set_cons_succ]
                clear hF HA3
                obtain ⟨b3, o3, hA⟩ := md_app3 H.out HL.out.1.z hn9 (wA.heap.size + 1)
                have HA3 := hid hA
                have hF := md_fine3 hA
                clear hA
                refine late_ready (rs := [3]) (by kernel_rfl) (by simp) ?_
                refine lates_cons (o := { dst := some 51, op := Op.call { callee := Callee.builtin Builtin.append, args := #[Operand.tmp 48, Operand.tmp 50], argTypes := #[22, 22] }, type := 22, pos := "law.go:74", after := #[{ on := 0, ground := Ground.data }, { on := 2, ground := Ground.data }], guard := none }) rfl (fun K hK => ?_) (lates_nil)
                go_simp
                replace H := hid (md_3 H.out HA3.out)
                refine hK.out _ _ ?_ (fun hHeld => ?_)
                · exact sm_low HS5.out H.out.low
                clear hK K
                try simp only [Act.put, List.setIfInBounds_toArray, List.set_cons_zero, List.set_cons_succ]
                clear hF HA3
                generalize apA Try.prog #[22, 22] 22 ((((wA.alloc (.cells #[.int .i64 u.op, .slice u.ai u.ni u.ci, .slice u.ap u.np u.cp] 31)).alloc (.cells #[] 31)).alloc (.cells #[.slice none 0 0, .int .i64 0] 24)).drew) (.slice (some ⟨wA.heap.size + 1, 0, none⟩) 0 0) (.slice ao n c) = a3 at H hHeld ⊢
                generalize apC Try.prog #[22, 22] 22 ((((wA.alloc (.cells #[.int .i64 u.op, .slice u.ai u.ni u.ci, .slice u.ap u.np u.cp] 31)).alloc (.cells #[] 31)).alloc (.cells #[.slice none 0 0, .int .i64 0] 24)).drew) (.slice (some ⟨wA.heap.size + 1, 0, none⟩) 0 0) (.slice ao n c) = c3 at H hHeld ⊢
                generalize apW Try.prog #[22, 22] 22 ((((wA.alloc (.cells #[.int .i64 u.op, .slice u.ai u.ni u.ci, .slice u.ap u.np u.cp] 31)).alloc (.cells #[] 31)).alloc (.cells #[.slice none 0 0, .int .i64 0] 24)).drew) (.slice (some ⟨wA.heap.size + 1, 0, none⟩) 0 0) (.slice ao n c) = W3 at H hHeld ⊢
                obtain ⟨b6, o6, hA⟩ := md_app6 H.out hn9
                have HA6 := hid hA
                have hF := hA.fine
                clear hA
                refine late_ready (rs := [6]) (by kernel_rfl) (by simp) ?_
                refine lates_cons (o := { dst := some 54, op := Op.call { callee := Callee.builtin Builtin.append, args := #[Operand.tmp 51, Operand.tmp 53], argTypes := #[22, 22] }, type := 22, pos := "law.go:74", after := #[{ on := 3, ground := Ground.data }, { on := 5, ground := Ground.data }, { on := 3, ground := Ground.chain }], guard := none }) rfl (fun K hK => ?_) (lates_nil)
                go_simp
                replace H := hid (md_6 H.out HA6.out)
                refine hK.out _ _ ?_ (fun hHeld => ?_)
                · exact sm_low HS5.out H.out.low
                clear hK K
                try simp only [Act.put, List.setIfInBounds_toArray, List.set_cons_zero, List.set_cons_succ]
                clear hF HA6
                generalize apA Try.prog #[22, 22] 22 W3 (.slice a3 n c3) (.slice (some ⟨wA.heap.size, 0, none⟩) 1 1) = a6 at H hHeld ⊢
                generalize apC Try.prog #[22, 22] 22 W3 (.slice a3 n c3) (.slice (some ⟨wA.heap.size, 0, none⟩) 1 1) = c6 at H hHeld ⊢
                generalize apW Try.prog #[22, 22] 22 W3 (.slice a3 n c3) (.slice (some ⟨wA.heap.size, 0, none⟩) 1 1) = W6 at H hHeld ⊢
                refine late_take (i := 9) (oi := { dst := some 57, op := Op.build 24 #[(0, Operand.tmp 54), (1, Operand.tmp 56)], type := 24, pos := "law.go:74", after := #[{ on := 6, ground := Ground.data }, { on := 8, ground := Ground.data }], guard := none }) (v := ?_) rfl (by kernel_rfl) (by kernel_rfl) (by kernel_rfl) (by kernel_rfl) (fun _ _ _ h => h) (Or.inl ⟨by rfl, ?hy⟩) (by assumption) ?_
                case hy => (intro w hSw; (try dsimp only at hSw); go_simp; first | done | with_reducible rfl)
                try simp only [Act.put, List.setIfInBounds_toArray, List.set_cons_zero, List.set_cons_succ]
                refine late_ready (rs := [11]) (by kernel_rfl) (by simp) ?_
                obtain ⟨-, ⟨q0, q1⟩, ⟨q2, q3⟩, -⟩ := H.out.h10 rfl
                refine lates_last (o := { dst := none, op := Op.store 24 (Operand.tmp 6) (Operand.tmp 57), type := 0, pos := "law.go:74", after := #[{ on := 10, ground := Ground.data }, { on := 9, ground := Ground.data }, { on := 6, ground := Ground.chain }, { on := 0, ground := Ground.phase }, { on := 1, ground := Ground.phase }, { on := 2, ground := Ground.phase }, { on := 3, ground := Ground.phase }, { on := 4, ground := Ground.phase }, { on := 5, ground := Ground.phase }, { on := 6, ground := Ground.phase }, { on := 7, ground := Ground.phase }, { on := 8, ground := Ground.phase }, { on := 9, ground := Ground.phase }, { on := 10, ground := Ground.phase }], guard := none }) rfl (fun K hK => ?_)
                go_simp
                refine hK.out _ _ ?_
                clear hK K
                try simp only [Act.put, List.setIfInBounds_toArray, List.set_cons_zero, List.set_cons_succ]
                refine late_done (by kernel_rfl) ?_ _
                go_wp2_with fail
                go_meet
                case rel => exact ⟨_, wA.heap.size + 1 + 1, _, _, _, _, rfl, rfl, me_store HL.out.1 HL.out.2.1 HL.out.2.2 H.out out⟩
            · go_simp
              have H0 := H
              replace H := hid (md_10d H.out (k' := wA.heap.size + 1) (by first | rfl | simp) 24)
              refine hK.out _ _ ?_ (fun hHeld => ?_)
              · exact sm_low HS5.out H.out.low
              clear hK K
              try simp only [Act.put, List.setIfInBounds_toArray, List.set_cons_zero, List.set_cons_succ]
              refine late_ready (rs := [0]) (by kernel_rfl) (by simp) ?_
              refine lates_cons (o := { dst := some 48, op := Op.buildSlice 22 0 #[], type := 22, pos := "law.go:74", after := #[], guard := none }) rfl (fun K hK => ?_) (lates_nil)
              go_simp
              have H0 := H
              replace H := hid (md_below H.out (md_b0 (.cells #[] 31)))
              refine hK.out _ _ ?_ (fun hHeld => ?_)
              · exact sm_low HS5.out H.out.low
              clear hK K
              try simp only [Act.put, List.setIfInBounds_toArray, List.set_cons_zero, List.set_cons_succ]
              obtain ⟨b3, o3, hA⟩ := md_app3 H.out HL.out.1.z hn9 (wA.heap.size + 1 + 1)
              have HA3 := hid hA
              have hF := md_fine3 hA
              clear hA
              refine late_ready (rs := [3]) (by kernel_rfl) (by simp) ?_
              refine lates_cons (o := { dst := some 51, op := Op.call { callee := Callee.builtin Builtin.append, args := #[Operand.tmp 48, Operand.tmp 50], argTypes := #[22, 22] }, type := 22, pos := "law.go:74", after := #[{ on := 0, ground := Ground.data }, { on := 2, ground := Ground.data }], guard := none }) rfl (fun K hK => ?_) (lates_nil)
              go_simp
              replace H := hid (md_3 H.out HA3.out)
              refine hK.out _ _ ?_ (fun hHeld => ?_)
              · exact sm_low HS5.out H.out.low
              clear hK K
              try simp only [Act.put, List.setIfInBounds_toArray, List.set_cons_zero, List.set_cons_succ]
              clear hF HA3
              generalize apA Try.prog #[22, 22] 22 ((((wA.alloc (.cells #[.int .i64 u.op, .slice u.ai u.ni u.ci, .slice u.ap u.np u.cp] 31)).alloc (.cells #[.slice none 0 0, .int .i64 0] 24)).alloc (.cells #[] 31)).drew) (.slice (some ⟨wA.heap.size + 1 + 1, 0, none⟩) 0 0) (.slice ao n c) = a3 at H hHeld ⊢
              generalize apC Try.prog #[22, 22] 22 ((((wA.alloc (.cells #[.int .i64 u.op, .slice u.ai u.ni u.ci, .slice u.ap u.np u.cp] 31)).alloc (.cells #[.slice none 0 0, .int .i64 0] 24)).alloc (.cells #[] 31)).drew) (.slice (some ⟨wA.heap.size + 1 + 1, 0, none⟩) 0 0) (.slice ao n c) = c3 at H hHeld ⊢
              generalize apW Try.prog #[22, 22] 22 ((((wA.alloc (.cells #[.int .i64 u.op, .slice u.ai u.ni u.ci, .slice u.ap u.np u.cp] 31)).alloc (.cells #[.slice none 0 0, .int .i64 0] 24)).alloc (.cells #[] 31)).drew) (.slice (some ⟨wA.heap.size + 1 + 1, 0, none⟩) 0 0) (.slice ao n c) = W3 at H hHeld ⊢
              obtain ⟨b6, o6, hA⟩ := md_app6 H.out hn9
              have HA6 := hid hA
              have hF := hA.fine
              clear hA
              refine late_ready (rs := [6]) (by kernel_rfl) (by simp) ?_
              refine lates_cons (o := { dst := some 54, op := Op.call { callee := Callee.builtin Builtin.append, args := #[Operand.tmp 51, Operand.tmp 53], argTypes := #[22, 22] }, type := 22, pos := "law.go:74", after := #[{ on := 3, ground := Ground.data }, { on := 5, ground := Ground.data }, { on := 3, ground := Ground.chain }], guard := none }) rfl (fun K hK => ?_) (lates_nil)
              go_simp
              replace H := hid (md_6 H.out HA6.out)
              refine hK.out _ _ ?_ (fun hHeld => ?_)
              · exact sm_low HS5.out H.out.low
              clear hK K
              try simp only [Act.put, List.setIfInBounds_toArray, List.set_cons_zero, List.set_cons_succ]
              clear hF HA6
              generalize apA Try.prog #[22, 22] 22 W3 (.slice a3 n c3) (.slice (some ⟨wA.heap.size, 0, none⟩) 1 1) = a6 at H hHeld ⊢
              generalize apC Try.prog #[22, 22] 22 W3 (.slice a3 n c3) (.slice (some ⟨wA.heap.size, 0, none⟩) 1 1) = c6 at H hHeld ⊢
              generalize apW Try.prog #[22, 22] 22 W3 (.slice a3 n c3) (.slice (some ⟨wA.heap.size, 0, none⟩) 1 1) = W6 at H hHeld ⊢
              refine late_take (i := 9) (oi := { dst := some 57, op := Op.build 24 #[(0, Operand.tmp 54), (1, Operand.tmp 56)], type := 24, pos := "law.go:74", after := #[{ on := 6, ground := Ground.data }, { on := 8, ground := Ground.data }], guard := none }) (v := ?_) rfl (by kernel_rfl) (by kernel_rfl) (by kernel_rfl) (by kernel_rfl) (fun _ _ _ h => h) (Or.inl ⟨by rfl, ?hy⟩) (by assumption) ?_
              case hy => (intro w hSw; (try dsimp only at hSw); go_simp; first | done | with_reducible rfl)
              try simp only [Act.put, List.setIfInBounds_toArray, List.set_cons_zero, List.set_cons_succ]
              refine late_ready (rs := [11]) (by kernel_rfl) (by simp) ?_
              obtain ⟨-, ⟨q0, q1⟩, ⟨q2, q3⟩, -⟩ := H.out.h10 rfl
              refine lates_last (o := { dst := none, op := Op.store 24 (Operand.tmp 6) (Operand.tmp 57), type := 0, pos := "law.go:74", after := #[{ on := 10, ground := Ground.data }, { on := 9, ground := Ground.data }, { on := 6, ground := Ground.chain }, { on := 0, ground := Ground.phase }, { on := 1, ground := Ground.phase }, { on := 2, ground := Ground.phase }, { on := 3, ground := Ground.phase }, { on := 4, ground := Ground.phase }, { on := 5, ground := Ground.phase }, { on := 6, ground := Ground.phase }, { on := 7, ground := Ground.phase }, { on := 8, ground := Ground.phase }, { on := 9, ground := Ground.phase }, { on := 10, ground := Ground.phase }], guard := none }) rfl (fun K hK => ?_)
              go_simp
              refine hK.out _ _ ?_
              clear hK K
              try simp only [Act.put, List.setIfInBounds_toArray, List.set_cons_zero, List.set_cons_succ]
              refine late_done (by kernel_rfl) ?_ _
              go_wp2_with fail
              go_meet
              case rel => exact ⟨_, wA.heap.size + 1, _, _, _, _, rfl, rfl, me_store HL.out.1 HL.out.2.1 HL.out.2.2 H.out out⟩
          · go_simp
            have H0 := H
            replace H := hid (md_10d H.out (k' := wA.heap.size) (by first | rfl | simp) 24)
            refine hK.out _ _ ?_ (fun hHeld => ?_)
            · exact sm_low HS5.out H.out.low
            clear hK K
            try simp only [Act.put, List.setIfInBounds_toArray, List.set_cons_zero, List.set_cons_succ]
            refine late_ready (rs := [0, 5]) (by kernel_rfl) (by simp) ?_
            refine lates_cons (o := { dst := some 48, op := Op.buildSlice 22 0 #[], type := 22, pos := "law.go:74", after := #[], guard := none }) rfl (fun K hK => ?_) (lates_cons (o := { dst := some 53, op := Op.buildSlice 22 1 #[(0, Operand.tmp 52)], type := 22, pos := "law.go:74", after := #[{ on := 4, ground := Ground.data }], guard := none }) rfl (fun K hK => ?_) (lates_nil))
            · go_simp
              have H0 := H
              replace H := hid (md_below H.out (md_b0 (.cells #[] 31)))
              refine hK.out _ _ ?_ (fun hHeld => ?_)
              · exact sm_low HS5.out H.out.low
              clear hK K
              try simp only [Act.put, List.setIfInBounds_toArray, List.set_cons_zero, List.set_cons_succ]
              obtain ⟨b3, o3, hA⟩ := md_app3 H.out HL.out.1.z hn9 (wA.heap.size + 1)
              have HA3 := hid hA
              have hF := md_fine3 hA
              clear hA
              refine late_ready (rs := [3, 5]) (by kernel_rfl) (by simp) ?_
              refine lates_cons (o := { dst := some 51, op := Op.call { callee := Callee.builtin Builtin.append, args := #[Operand.tmp 48, Operand.tmp 50], argTypes := #[22, 22] }, type := 22, pos := "law.go:74", after := #[{ on := 0, ground := Ground.data }, { on := 2, ground := Ground.data }], guard := none }) rfl (fun K hK => ?_) (lates_cons (o := { dst := some 53, op := Op.buildSlice 22 1 #[(0, Operand.tmp 52)], type := 22, pos := "law.go:74", after := #[{ on := 4, ground := Ground.data }], guard := none }) rfl (fun K hK => ?_) (lates_nil))
              · go_simp
                replace H := hid (md_3 H.out HA3.out)
                refine hK.out _ _ ?_ (fun hHeld => ?_)
                · exact sm_low HS5.out H.out.low
                clear hK K
                try simp only [Act.put, List.setIfInBounds_toArray, List.set_cons_zero, List.set_cons_succ]
                clear hF HA3
                generalize apA Try.prog #[22, 22] 22 (((wA.alloc (.cells #[.slice none 0 0, .int .i64 0] 24)).alloc (.cells #[] 31)).drew) (.slice (some ⟨wA.heap.size + 1, 0, none⟩) 0 0) (.slice ao n c) = a3 at H hHeld ⊢
                generalize apC Try.prog #[22, 22] 22 (((wA.alloc (.cells #[.slice none 0 0, .int .i64 0] 24)).alloc (.cells #[] 31)).drew) (.slice (some ⟨wA.heap.size + 1, 0, none⟩) 0 0) (.slice ao n c) = c3 at H hHeld ⊢
                generalize apW Try.prog #[22, 22] 22 (((wA.alloc (.cells #[.slice none 0 0, .int .i64 0] 24)).alloc (.cells #[] 31)).drew) (.slice (some ⟨wA.heap.size + 1, 0, none⟩) 0 0) (.slice ao n c) = W3 at H hHeld ⊢
                refine late_ready (rs := [5]) (by kernel_rfl) (by simp) ?_
                refine lates_cons (o := { dst := some 53, op := Op.buildSlice 22 1 #[(0, Operand.tmp 52)], type := 22, pos := "law.go:74", after := #[{ on := 4, ground := Ground.data }], guard := none }) rfl (fun K hK => ?_) (lates_nil)
                go_simp
                have H0 := H
                replace H := hid (md_5 H.out (g' := W3.heap.size) (by first | rfl | simp) 31)
                refine hK.out _ _ ?_ (fun hHeld => ?_)
                · exact sm_low HS5.out H.out.low
                clear hK K
                try simp only [Act.put, List.setIfInBounds_toArray, List.set_cons_zero, List.set_cons_succ]
                obtain ⟨b6, o6, hA⟩ := md_app6 H.out hn9
                have HA6 := hid hA
                have hF := hA.fine
                clear hA
                refine late_ready (rs := [6]) (by kernel_rfl) (by simp) ?_
                refine lates_cons (o := { dst := some 54, op := Op.call { callee := Callee.builtin Builtin.append, args := #[Operand.tmp 51, Operand.tmp 53], argTypes := #[22, 22] }, type := 22, pos := "law.go:74", after := #[{ on := 3, ground := Ground.data }, { on := 5, ground := Ground.data }, { on := 3, ground := Ground.chain }], guard := none }) rfl (fun K hK => ?_) (lates_nil)
                go_simp
                replace H := hid (md_6 H.out HA6.out)
                refine hK.out _ _ ?_ (fun hHeld => ?_)
                · exact sm_low HS5.out H.out.low
                clear hK K
                try simp only [Act.put, List.setIfInBounds_toArray, List.set_cons_zero, List.set_cons_succ]
                clear hF HA6
                generalize apA Try.prog #[22, 22] 22 (W3.alloc (.cells #[.int .i64 u.op, .slice u.ai u.ni u.ci, .slice u.ap u.np u.cp] 31)) (.slice a3 n c3) (.slice (some ⟨W3.heap.size, 0, none⟩) 1 1) = a6 at H hHeld ⊢
                generalize apC Try.prog #[22, 22] 22 (W3.alloc (.cells #[.int .i64 u.op, .slice u.ai u.ni u.ci, .slice u.ap u.np u.cp] 31)) (.slice a3 n c3) (.slice (some ⟨W3.heap.size, 0, none⟩) 1 1) = c6 at H hHeld ⊢
                generalize apW Try.prog #[22, 22] 22 (W3.alloc (.cells #[.int .i64 u.op, .slice u.ai u.ni u.ci, .slice u.ap u.np u.cp] 31)) (.slice a3 n c3) (.slice (some ⟨W3.heap.size, 0, none⟩) 1 1) = W6 at H hHeld ⊢
                refine late_take (i := 9) (oi := { dst := some 57, op := Op.build 24 #[(0, Operand.tmp 54), (1, Operand.tmp 56)], type := 24, pos := "law.go:74", after := #[{ on := 6, ground := Ground.data }, { on := 8, ground := Ground.data }], guard := none }) (v := ?_) rfl (by kernel_rfl) (by kernel_rfl) (by kernel_rfl) (by kernel_rfl) (fun _ _ _ h => h) (Or.inl ⟨by rfl, ?hy⟩) (by assumption) ?_
                case hy => (intro w hSw; (try dsimp only at hSw); go_simp; first | done | with_reducible rfl)
                try simp only [Act.put, List.setIfInBounds_toArray, List.set_cons_zero, List.set_cons_succ]
                refine late_ready (rs := [11]) (by kernel_rfl) (by simp) ?_
                obtain ⟨-, ⟨q0, q1⟩, ⟨q2, q3⟩, -⟩ := H.out.h10 rfl
                refine lates_last (o := { dst := none, op := Op.store 24 (Operand.tmp 6) (Operand.tmp 57), type := 0, pos := "law.go:74", after := #[{ on := 10, ground := Ground.data }, { on := 9, ground := Ground.data }, { on := 6, ground := Ground.chain }, { on := 0, ground := Ground.phase }, { on := 1, ground := Ground.phase }, { on := 2, ground := Ground.phase }, { on := 3, ground := Ground.phase }, { on := 4, ground := Ground.phase }, { on := 5, ground := Ground.phase }, { on := 6, ground := Ground.phase }, { on := 7, ground := Ground.phase }, { on := 8, ground := Ground.phase }, { on := 9, ground := Ground.phase }, { on := 10, ground := Ground.phase }], guard := none }) rfl (fun K hK => ?_)
                go_simp
                refine hK.out _ _ ?_
                clear hK K
                try simp only [Act.put, List.setIfInBounds_toArray, List.set_cons_zero, List.set_cons_succ]
                refine late_done (by kernel_rfl) ?_ _
                go_wp2_with fail
                go_meet
                case rel => exact ⟨_, wA.heap.size, _, _, _, _, rfl, rfl, me_store HL.out.1 HL.out.2.1 HL.out.2.2 H.out out⟩
              · go_simp
                have H0 := H
                replace H := hid (md_5d H.out (g' := wA.heap.size + 1 + 1) (by first | rfl | simp) 31)
                refine hK.out _ _ ?_ (fun hHeld => ?_)
                · exact sm_low HS5.out H.out.low
                clear hK K
                try simp only [Act.put, List.setIfInBounds_toArray, List.set_cons_zero, List.set_cons_succ]
                clear hF HA3
                obtain ⟨b3, o3, hA⟩ := md_app3 H.out HL.out.1.z hn9 (wA.heap.size + 1)
                have HA3 := hid hA
                have hF := md_fine3 hA
                clear hA
                refine late_ready (rs := [3]) (by kernel_rfl) (by simp) ?_
                refine lates_cons (o := { dst := some 51, op := Op.call { callee := Callee.builtin Builtin.append, args := #[Operand.tmp 48, Operand.tmp 50], argTypes := #[22, 22] }, type := 22, pos := "law.go:74", after := #[{ on := 0, ground := Ground.data }, { on := 2, ground := Ground.data }], guard := none }) rfl (fun K hK => ?_) (lates_nil)
                go_simp
                replace H := hid (md_3 H.out HA3.out)
                refine hK.out _ _ ?_ (fun hHeld => ?_)
                · exact sm_low HS5.out H.out.low
                clear hK K
                try simp only [Act.put, List.setIfInBounds_toArray, List.set_cons_zero, List.set_cons_succ]
                clear hF HA3
                generalize apA Try.prog #[22, 22] 22 ((((wA.alloc (.cells #[.slice none 0 0, .int .i64 0] 24)).alloc (.cells #[] 31)).alloc (.cells #[.int .i64 u.op, .slice u.ai u.ni u.ci, .slice u.ap u.np u.cp] 31)).drew) (.slice (some ⟨wA.heap.size + 1, 0, none⟩) 0 0) (.slice ao n c) = a3 at H hHeld ⊢
                generalize apC Try.prog #[22, 22] 22 ((((wA.alloc (.cells #[.slice none 0 0, .int .i64 0] 24)).alloc (.cells #[] 31)).alloc (.cells #[.int .i64 u.op, .slice u.ai u.ni u.ci, .slice u.ap u.np u.cp] 31)).drew) (.slice (some ⟨wA.heap.size + 1, 0, none⟩) 0 0) (.slice ao n c) = c3 at H hHeld ⊢
                generalize apW Try.prog #[22, 22] 22 ((((wA.alloc (.cells #[.slice none 0 0, .int .i64 0] 24)).alloc (.cells #[] 31)).alloc (.cells #[.int .i64 u.op, .slice u.ai u.ni u.ci, .slice u.ap u.np u.cp] 31)).drew) (.slice (some ⟨wA.heap.size + 1, 0, none⟩) 0 0) (.slice ao n c) = W3 at H hHeld ⊢
                obtain ⟨b6, o6, hA⟩ := md_app6 H.out hn9
                have HA6 := hid hA
                have hF := hA.fine
                clear hA
                refine late_ready (rs := [6]) (by kernel_rfl) (by simp) ?_
                refine lates_cons (o := { dst := some 54, op := Op.call { callee := Callee.builtin Builtin.append, args := #[Operand.tmp 51, Operand.tmp 53], argTypes := #[22, 22] }, type := 22, pos := "law.go:74", after := #[{ on := 3, ground := Ground.data }, { on := 5, ground := Ground.data }, { on := 3, ground := Ground.chain }], guard := none }) rfl (fun K hK => ?_) (lates_nil)
                go_simp
                replace H := hid (md_6 H.out HA6.out)
                refine hK.out _ _ ?_ (fun hHeld => ?_)
                · exact sm_low HS5.out H.out.low
                clear hK K
                try simp only [Act.put, List.setIfInBounds_toArray, List.set_cons_zero, List.set_cons_succ]
                clear hF HA6
                generalize apA Try.prog #[22, 22] 22 W3 (.slice a3 n c3) (.slice (some ⟨wA.heap.size + 1 + 1, 0, none⟩) 1 1) = a6 at H hHeld ⊢
                generalize apC Try.prog #[22, 22] 22 W3 (.slice a3 n c3) (.slice (some ⟨wA.heap.size + 1 + 1, 0, none⟩) 1 1) = c6 at H hHeld ⊢
                generalize apW Try.prog #[22, 22] 22 W3 (.slice a3 n c3) (.slice (some ⟨wA.heap.size + 1 + 1, 0, none⟩) 1 1) = W6 at H hHeld ⊢
                refine late_take (i := 9) (oi := { dst := some 57, op := Op.build 24 #[(0, Operand.tmp 54), (1, Operand.tmp 56)], type := 24, pos := "law.go:74", after := #[{ on := 6, ground := Ground.data }, { on := 8, ground := Ground.data }], guard := none }) (v := ?_) rfl (by kernel_rfl) (by kernel_rfl) (by kernel_rfl) (by kernel_rfl) (fun _ _ _ h => h) (Or.inl ⟨by rfl, ?hy⟩) (by assumption) ?_
                case hy => (intro w hSw; (try dsimp only at hSw); go_simp; first | done | with_reducible rfl)
                try simp only [Act.put, List.setIfInBounds_toArray, List.set_cons_zero, List.set_cons_succ]
                refine late_ready (rs := [11]) (by kernel_rfl) (by simp) ?_
                obtain ⟨-, ⟨q0, q1⟩, ⟨q2, q3⟩, -⟩ := H.out.h10 rfl
                refine lates_last (o := { dst := none, op := Op.store 24 (Operand.tmp 6) (Operand.tmp 57), type := 0, pos := "law.go:74", after := #[{ on := 10, ground := Ground.data }, { on := 9, ground := Ground.data }, { on := 6, ground := Ground.chain }, { on := 0, ground := Ground.phase }, { on := 1, ground := Ground.phase }, { on := 2, ground := Ground.phase }, { on := 3, ground := Ground.phase }, { on := 4, ground := Ground.phase }, { on := 5, ground := Ground.phase }, { on := 6, ground := Ground.phase }, { on := 7, ground := Ground.phase }, { on := 8, ground := Ground.phase }, { on := 9, ground := Ground.phase }, { on := 10, ground := Ground.phase }], guard := none }) rfl (fun K hK => ?_)
                go_simp
                refine hK.out _ _ ?_
                clear hK K
                try simp only [Act.put, List.setIfInBounds_toArray, List.set_cons_zero, List.set_cons_succ]
                refine late_done (by kernel_rfl) ?_ _
                go_wp2_with fail
                go_meet
                case rel => exact ⟨_, wA.heap.size, _, _, _, _, rfl, rfl, me_store HL.out.1 HL.out.2.1 HL.out.2.2 H.out out⟩
            · go_simp
              have H0 := H
              replace H := hid (md_5d H.out (g' := wA.heap.size + 1) (by first | rfl | simp) 31)
              refine hK.out _ _ ?_ (fun hHeld => ?_)
              · exact sm_low HS5.out H.out.low
              clear hK K
              try simp only [Act.put, List.setIfInBounds_toArray, List.set_cons_zero, List.set_cons_succ]
              refine late_ready (rs := [0]) (by kernel_rfl) (by simp) ?_
              refine lates_cons (o := { dst := some 48, op := Op.buildSlice 22 0 #[], type := 22, pos := "law.go:74", after := #[], guard := none }) rfl (fun K hK => ?_) (lates_nil)
              go_simp
              have H0 := H
              replace H := hid (md_below H.out (md_b0 (.cells #[] 31)))
              refine hK.out _ _ ?_ (fun hHeld => ?_)
              · exact sm_low HS5.out H.out.low
              clear hK K
              try simp only [Act.put, List.setIfInBounds_toArray, List.set_cons_zero, List.set_cons_succ]
              obtain ⟨b3, o3, hA⟩ := md_app3 H.out HL.out.1.z hn9 (wA.heap.size + 1 + 1)
              have HA3 := hid hA
              have hF := md_fine3 hA
              clear hA
              refine late_ready (rs := [3]) (by kernel_rfl) (by simp) ?_
              refine lates_cons (o := { dst := some 51, op := Op.call { callee := Callee.builtin Builtin.append, args := #[Operand.tmp 48, Operand.tmp 50], argTypes := #[22, 22] }, type := 22, pos := "law.go:74", after := #[{ on := 0, ground := Ground.data }, { on := 2, ground := Ground.data }], guard := none }) rfl (fun K hK => ?_) (lates_nil)
              go_simp
              replace H := hid (md_3 H.out HA3.out)
              refine hK.out _ _ ?_ (fun hHeld => ?_)
              · exact sm_low HS5.out H.out.low
              clear hK K
              try simp only [Act.put, List.setIfInBounds_toArray, List.set_cons_zero, List.set_cons_succ]
              clear hF HA3
              generalize apA Try.prog #[22, 22] 22 ((((wA.alloc (.cells #[.slice none 0 0, .int .i64 0] 24)).alloc (.cells #[.int .i64 u.op, .slice u.ai u.ni u.ci, .slice u.ap u.np u.cp] 31)).alloc (.cells #[] 31)).drew) (.slice (some ⟨wA.heap.size + 1 + 1, 0, none⟩) 0 0) (.slice ao n c) = a3 at H hHeld ⊢
              generalize apC Try.prog #[22, 22] 22 ((((wA.alloc (.cells #[.slice none 0 0, .int .i64 0] 24)).alloc (.cells #[.int .i64 u.op, .slice u.ai u.ni u.ci, .slice u.ap u.np u.cp] 31)).alloc (.cells #[] 31)).drew) (.slice (some ⟨wA.heap.size + 1 + 1, 0, none⟩) 0 0) (.slice ao n c) = c3 at H hHeld ⊢
              generalize apW Try.prog #[22, 22] 22 ((((wA.alloc (.cells #[.slice none 0 0, .int .i64 0] 24)).alloc (.cells #[.int .i64 u.op, .slice u.ai u.ni u.ci, .slice u.ap u.np u.cp] 31)).alloc (.cells #[] 31)).drew) (.slice (some ⟨wA.heap.size + 1 + 1, 0, none⟩) 0 0) (.slice ao n c) = W3 at H hHeld ⊢
              obtain ⟨b6, o6, hA⟩ := md_app6 H.out hn9
              have HA6 := hid hA
              have hF := hA.fine
              clear hA
              refine late_ready (rs := [6]) (by kernel_rfl) (by simp) ?_
              refine lates_cons (o := { dst := some 54, op := Op.call { callee := Callee.builtin Builtin.append, args := #[Operand.tmp 51, Operand.tmp 53], argTypes := #[22, 22] }, type := 22, pos := "law.go:74", after := #[{ on := 3, ground := Ground.data }, { on := 5, ground := Ground.data }, { on := 3, ground := Ground.chain }], guard := none }) rfl (fun K hK => ?_) (lates_nil)
              go_simp
              replace H := hid (md_6 H.out HA6.out)
              refine hK.out _ _ ?_ (fun hHeld => ?_)
              · exact sm_low HS5.out H.out.low
              clear hK K
              try simp only [Act.put, List.setIfInBounds_toArray, List.set_cons_zero, List.set_cons_succ]
              clear hF HA6
              generalize apA Try.prog #[22, 22] 22 W3 (.slice a3 n c3) (.slice (some ⟨wA.heap.size + 1, 0, none⟩) 1 1) = a6 at H hHeld ⊢
              generalize apC Try.prog #[22, 22] 22 W3 (.slice a3 n c3) (.slice (some ⟨wA.heap.size + 1, 0, none⟩) 1 1) = c6 at H hHeld ⊢
              generalize apW Try.prog #[22, 22] 22 W3 (.slice a3 n c3) (.slice (some ⟨wA.heap.size + 1, 0, none⟩) 1 1) = W6 at H hHeld ⊢
              refine late_take (i := 9) (oi := { dst := some 57, op := Op.build 24 #[(0, Operand.tmp 54), (1, Operand.tmp 56)], type := 24, pos := "law.go:74", after := #[{ on := 6, ground := Ground.data }, { on := 8, ground := Ground.data }], guard := none }) (v := ?_) rfl (by kernel_rfl) (by kernel_rfl) (by kernel_rfl) (by kernel_rfl) (fun _ _ _ h => h) (Or.inl ⟨by rfl, ?hy⟩) (by assumption) ?_
              case hy => (intro w hSw; (try dsimp only at hSw); go_simp; first | done | with_reducible rfl)
              try simp only [Act.put, List.setIfInBounds_toArray, List.set_cons_zero, List.set_cons_succ]
              refine late_ready (rs := [11]) (by kernel_rfl) (by simp) ?_
              obtain ⟨-, ⟨q0, q1⟩, ⟨q2, q3⟩, -⟩ := H.out.h10 rfl
              refine lates_last (o := { dst := none, op := Op.store 24 (Operand.tmp 6) (Operand.tmp 57), type := 0, pos := "law.go:74", after := #[{ on := 10, ground := Ground.data }, { on := 9, ground := Ground.data }, { on := 6, ground := Ground.chain }, { on := 0, ground := Ground.phase }, { on := 1, ground := Ground.phase }, { on := 2, ground := Ground.phase }, { on := 3, ground := Ground.phase }, { on := 4, ground := Ground.phase }, { on := 5, ground := Ground.phase }, { on := 6, ground := Ground.phase }, { on := 7, ground := Ground.phase }, { on := 8, ground := Ground.phase }, { on := 9, ground := Ground.phase }, { on := 10, ground := Ground.phase }], guard := none }) rfl (fun K hK => ?_)
              go_simp
              refine hK.out _ _ ?_
              clear hK K
              try simp only [Act.put, List.setIfInBounds_toArray, List.set_cons_zero, List.set_cons_succ]
              refine late_done (by kernel_rfl) ?_ _
              go_wp2_with fail
              go_meet
              case rel => exact ⟨_, wA.heap.size, _, _, _, _, rfl, rfl, me_store HL.out.1 HL.out.2.1 HL.out.2.2 H.out out⟩
        case rest =>
          obtain ⟨wB, k, a6, c6, b6, o6, rfl, rfl, hM⟩ := hcut
          obtain ⟨hlow, hvn, m0, m1⟩ := hM
          have hS5 := sm_low HS5.out hlow
          have hfu : Few (n + 1) (L ++ [u]) := ⟨by omega, fun v hv => by
            rcases List.mem_append.1 hv with hv | hv
            · exact HF.out.2.1.i v hv
            · rw [List.mem_singleton] at hv
              subst hv; omega⟩
          obtain ⟨y, hy⟩ : ∃ y, y = oneI u.op u.l u.p ((n : Int) + 1) := ⟨_, rfl⟩
          have HY1 : Hid (checkI (L ++ [u]) out = y) := by show _ = y; rw [HC.out, hy]
          obtain ⟨N, hN⟩ : ∃ N, N = n + 1 := ⟨_, rfl⟩
          have HY2 : Hid (oneI u.op u.l u.p (N : Int) = y) := by show _ = y; rw [hy, hN]; congr 1
          rw [← hN] at hvn m0 hfu
          have hN9 := vz_small hvn.z
          have HR := hid (And.intro hvn (And.intro hfu (And.intro (HL.out.2.1.below hlow) (And.intro (HL.out.2.2.below hlow) (via (w := w) HW.out hlow)))))
          clear hvn hfu hy hN HC H HS5 HL
          have hS : S6m wB k (w.heap.size + 1) (.slice a6 N c6) (.int .i64 out) (.int .i64 u.op) (.slice u.ai u.ni u.ci) (.slice u.ap u.np u.cp) wB := ⟨⟨m0, m1, hS5.2.2⟩, Below.refl _ _⟩
          clear m0 m1 hS5 hlow HW
          go_wp2
          go_region_held3 (fun w' => (w'.cell? ⟨k, 0, none⟩ = some (.slice a6 N c6) ∧ w'.cell? ⟨k, 1, none⟩ = some (.int .i64 out) ∧ w'.cell? ⟨w.heap.size + 1, 0, none⟩ = some (.int .i64 u.op) ∧ w'.cell? ⟨w.heap.size + 1, 1, none⟩ = some (.slice u.ai u.ni u.ci) ∧ w'.cell? ⟨w.heap.size + 1, 2, none⟩ = some (.slice u.ap u.np u.cp)) ∧ Below wB.heap.size wB w') (repeat (first | with_reducible assumption | with_reducible refine s6_drew ?_ | with_reducible refine s6_below ?_ ‹_›)) ((first
            | (go_at_call 8; with_reducible refine Calls.mono (check_6 HR.out.1 HR.out.2.1 HY1.out (by with_reducible assumption)) ?_; rintro e w6 ⟨rfl, hb⟩)
            | (go_at_call 10; with_reducible refine Calls.mono (one_6 HR.out.2.2.1 HR.out.2.2.2.1 HY2.out (by with_reducible assumption)) ?_; rintro e w7 ⟨rfl, hb⟩)))
          rename_i hh
          have HH := hid hh
          clear hh hS
          go_wp2
          go_ret
          exact ⟨ret_bool (by simp), via (w := w) HR.out.2.2.2.2 HH.out.2⟩
  · have HX : Hid (checkI L out = x) := hx.symm
    clear hx
    have hxb : (x != 0) = true := by simp [bne, hX]
    go_enter Try.func4, Try.ntmps4
    go_wp2_with (first
      | (go_at_call 6; with_reducible refine Calls.mono (awake_any _) ?_; rintro e w1 ⟨rfl, hb⟩; replace HS := hid (sm_below HS.out hb); obtain ⟨⟨x0, x1, y0, y1, y2⟩, -⟩ := id HS.out; clear hb)
      | (go_at_call 7; with_reducible refine Calls.mono (few_any _ _ _ b off L _ 255 _ (HV.out.below HS.out.2) (by decide)) ?_; rintro e w2 ⟨rfl, hb⟩; replace HS := hid (sm_below HS.out hb); rw [HF.out.1]; clear x0 x1 y0 y1 y2; obtain ⟨⟨x0, x1, y0, y1, y2⟩, -⟩ := id HS.out; clear hb)
      | (go_at_call 8; with_reducible refine Calls.mono (check_m HV.out HF.out.2.1 HX.out HS.out) ?_; rintro e w3 ⟨rfl, hb⟩; replace HS := hid (sm_below HS.out hb); clear x0 x1 y0 y1 y2; obtain ⟨⟨x0, x1, y0, y1, y2⟩, -⟩ := id HS.out; clear hb))
    go_ret
    exact ⟨rfl, HS.out.2⟩

theorem own : ownKnob Try.prog.godebug = none := by kernel_rfl

set_option maxHeartbeats 400000 in
set_option maxRecDepth 100000 in
theorem lifted (os : Os) (started : os.Started) (H : Type) (enc : TypeId × Value → H) :
    ReturnsInHanded {} Try.checked os 4 .any (Rows.nodeMoreSpec.pre6 enc Try.prog Try.f4 Rows.nodeMoreRow.domain false) (Rows.nodeMoreSpec.post enc Try.prog Try.f4 false true false false) := by
  refine returnsInHanded_of_change (C := Try.checked) own started (by kernel_rfl) Try.func4
    (ChangeSpec.witness6 (enc := enc) (C := Try.checked) false ⟨#[], #[.agg #[.slice none 0 0, .int .i64 0], .agg #[.int .i64 0, .slice none 0 0, .slice none 0 0]], []⟩ 8 (by kernel_rfl) (by kernel_rfl) (by kernel_rfl) (by kernel_rfl)) ?_
  intro W base args ds gs before hval0 hW hcnd _
  have hval : ∀ (j : Nat) t v, Try.f4.params[j]? = some t → args[j]? = some v → Value.okWide Try.prog W .any base t v := hval0
  have hW' := hW
  obtain ⟨p, q, hA0, hV, rfl, hfz, hnd⟩ := hW
  have hA : DataW.TrodAll enc Try.prog W 0 (fun _ => true) true Try.f4.params.toList args.toList ds p := hA0
  rw [Try.params4] at hA hval
  obtain ⟨v0, vs0, d0, ds0, p0, q0, hargs, rfl, rfl, h0, r0⟩ := trodAll_cons hA
  obtain ⟨v1, vs1, d1, ds1, p1, q1, rfl, rfl, rfl, h1, r1⟩ := trodAll_cons r0
  obtain ⟨rfl, rfl, rfl⟩ := trodAll_nil r1
  obtain rfl : args = #[v0, v1] := by cases args; simp_all
  obtain ⟨rfl, rfl⟩ := trodVars_none hV
  obtain ⟨ao0, n0, c0, b0, off0, L0, out0, rfl, hv0⟩ := open_graph (hval 0 24 v0 rfl rfl) h0
  obtain ⟨u1, rfl, hi1, hp1⟩ := open_nodeV (hval 1 31 v1 rfl rfl) h1
  clear hA0 hval0
  simp only [List.append_nil] at hW'
  have hlt0 : ∀ x ∈ p0, x.block < W.heap.size := fun x hx => hW'.lt x (by simp [hx])
  have hlt1 : ∀ x ∈ p1, x.block < W.heap.size := fun x hx => hW'.lt x (by simp [hx])
  refine (walk ao0 n0 c0 b0 off0 L0 out0 u1 W hv0 hi1 hp1).mono fun e W' ⟨he, hg⟩ => ?_
  subst he
  have t0 := Below.trod laidOut (by kernel_rfl) (of_decide_eq_true (by kernel_rfl)) h0 hg (fun x hx => hlt0 x hx)
  have t1 := Below.trod laidOut (by kernel_rfl) (of_decide_eq_true (by kernel_rfl)) h1 hg (fun x hx => hlt1 x hx)
  exact ⟨_, rfl, ⟨_, _, _, _, _, _, hW', (trodAll_cons_mk (shut_bool Try.underlying4 _) trodAll_mk0), (trodAll_cons_mk t0 (trodAll_cons_mk t1 trodAll_mk0)), rfl, hg.frame _, fun h => by cases h⟩⟩

theorem over : Rows.nodeMoreRow.holds Try.pinned (OpenSpec.ofChange Rows.nodeMoreSpec) :=
  OpenClaim.holds_of_wide 4 Try.f4 rfl rfl rfl rfl rfl rfl rfl ⟨rfl, rfl, rfl, rfl, rfl⟩ rfl rfl rfl rfl rfl (by kernel_rfl) Try.func4 (by kernel_rfl)
    (of_decide_eq_true (by kernel_rfl)) (by unfold Func.isWrapper; first | (rw [if_pos (by decide +kernel)]; kernel_rfl) | (rw [if_neg (by decide +kernel)]; exact ⟨rfl, rfl⟩))
    (fun os started H enc _ => lifted os started H enc)

theorem proved : Rows.NodeMoreSaid := over
#print axioms proved
end Go.Proofs.Ytleclkjinkbebaa.nodeMore
