/- Which nodes are needed, by the document: the contract. -/
import Derived.Test.YtccbgekijnkhpaaRefAll
namespace Go.Proofs.Ytccbgekijnkhpaa
open Num Go.RowKit
set_option linter.unusedVariables false
set_option linter.unusedSimpArgs false

namespace Num
/-- in a round, of the first i nodes -/
structure Ni (G : List (List Int)) (out : Int) (E : List Bool) (i : Nat) (D : List Bool) : Prop where
  r : Nr G out D
  mono : ∀ k, bt E k = true → bt D k = true
  o : ∀ k : Nat, out = (k : Int) → k < i → bt D k = true
  c : ∀ a, a < i → bt E a = true → ∀ k, k < G.length → hasB G a k = true → bt D k = true
/-- .. and of the first k inputs of the next one -/
structure Nk (G : List (List Int)) (out : Int) (E : List Bool) (i k : Nat) (D : List Bool) : Prop where
  n : Ni G out E i D
  o : out = (i : Int) → bt D i = true
  c : ∀ j, j < k → hasB G i j = true → bt E i = true → bt D j = true
theorem ni_start {G : List (List Int)} {out : Int} {E : List Bool} (h : Nr G out E) : Ni G out E 0 E := ⟨h, fun k hk => hk, fun k _ h => by omega, fun a h => by omega⟩
theorem bt_or {D : List Bool} {i k : Nat} {v : Bool} (hv : bt D i = true → v = true) (h : bt D k = true) : bt (D.set i v) k = true := by
  by_cases e : i = k
  · subst e
    by_cases hl : i < D.length
    · rw [bt_set_eq hl]; exact hv h
    · rw [List.set_eq_of_length_le (by omega)]; exact h
  · rw [bt_set_ne e]; exact h
theorem ni_set {G : List (List Int)} {out : Int} {E D : List Bool} {i k : Nat} {v : Bool} (h : Ni G out E i D) (hv : bt D k = true → v = true) (hr : v = true → Rch G out k) : Ni G out E i (D.set k v) :=
  ⟨nr_set h.r hr, fun a ha => bt_or hv (h.mono a ha), fun a ha hl => bt_or hv (h.o a ha hl), fun a ha hb j hj hh => bt_or hv (h.c a ha hb j hj hh)⟩
theorem nk_first {G : List (List Int)} {out : Int} {E D : List Bool} {i : Nat} {v : Bool} (h : Ni G out E i D) (hi : i < G.length) (hv : v = true ↔ (bt D i = true ∨ (i : Int) = out)) : Nk G out E i 0 (D.set i v) := by
  refine ⟨ni_set h (fun hb => hv.2 (Or.inl hb)) (fun ht => ?_), fun ho => ?_, fun j hj => by omega⟩
  · rcases hv.1 ht with h1 | h1
    · exact h.r.sound i hi h1
    · exact Rch.out i h1.symm hi
  · rw [bt_set_eq (by rw [h.r.len]; exact hi)]
    exact hv.2 (Or.inr ho.symm)
theorem nk_step {G : List (List Int)} {out : Int} {E D : List Bool} {i k : Nat} {v : Bool} (h : Nk G out E i k D) (hi : i < G.length) (hk : k < G.length) (hb : bt D i = true) (hv : v = true ↔ (bt D k = true ∨ hasB G i k = true)) : Nk G out E i (k + 1) (D.set k v) := by
  have hv1 : bt D k = true → v = true := fun hb => hv.2 (Or.inl hb)
  refine ⟨ni_set h.n hv1 (fun ht => ?_), fun ho => bt_or hv1 (h.o ho), fun j hj hh he => ?_⟩
  · rcases hv.1 ht with h1 | h1
    · exact h.n.r.sound k hk h1
    · exact Rch.step i k (h.n.r.sound i hi hb) hk h1
  · by_cases e : j = k
    · subst e
      rw [bt_set_eq (by rw [h.n.r.len]; exact hk)]
      exact hv.2 (Or.inr hh)
    · exact bt_or hv1 (h.c j (by omega) hh he)
theorem nk_end {G : List (List Int)} {out : Int} {E D : List Bool} {i k : Nat} (h : Nk G out E i k D) (hk : k = G.length ∨ bt D i = false) : Ni G out E (i + 1) D := by
  refine ⟨h.n.r, h.n.mono, fun a ho ha => ?_, fun a ha hb j hj hh => ?_⟩
  · by_cases e : a = i
    · subst e; exact h.o ho
    · exact h.n.o a ho (by omega)
  · by_cases e : a = i
    · subst e
      rcases hk with hk | hk
      · exact h.c j (by omega) hh hb
      · rw [h.n.mono a hb] at hk; cases hk
    · exact h.n.c a (by omega) hb j hj hh
theorem ni_end {G : List (List Int)} {out : Int} {E D : List Bool} {r : Nat} (h : Ni G out E G.length D) (hE : Nr G out E) (hf : Far G out r E) : Far G out (r + 1) D :=
  far_round hf hE h.r h.mono h.o h.c
end Num

set_option maxRecDepth 100000 in
set_option maxHeartbeats 4000000 in
theorem refNeed_any (ao : Option Addr) (n c b off : Nat) (L : List Nv) (out : Int) (w : World) (h : Vn w ao n c b off L) (hf : Few n L) :
    Calls Try.prog 16 #[.agg #[.slice ao n c, .int .i64 out]] w fun e w' => (∃ N, RetT w.heap.size w' e N ∧ Nd (insL L) out N) ∧ Below w.heap.size w w' := by
  have hl := vn_len h
  have hn := hf.n
  have hr := run_falses n (by omega)
  have H := hid (And.intro h (And.intro hf hl))
  have hm := mk_start w ao n c out hn
  have hG : Hid ((insL L).length = n) := by show (insL L).length = n; rw [insL_len, hl]
  clear h hl hf
  go_enter Try.func16, Try.ntmps16
  go_wp2
  generalize w.heap.size + 1 = g at *
  generalize ((w.alloc (.cells #[.slice ao n c, .int .i64 out] 24)).alloc (.cells (bools (List.replicate n false)).toArray 4)) = W at *
  have HM := hid hm
  have hI := hid (And.intro (nr_start (insL L) out) (far_start (insL L) out))
  rw [hG.out] at hI
  clear hm hr
  generalize List.replicate n false = D0 at *
  go_loopg [4, 5, 6] (n + 1) (fun gk x4 x5 x6 wr => ∃ (w1 : World) (r : Nat) (D : List Bool), w1 = wr ∧ r ≤ n + 1 ∧ gk = n + 1 - r ∧ x4 = .int .i64 r ∧ Mk w w.heap.size g ao n c out D w1 ∧ Nr (insL L) out D ∧ Far (insL L) out r D)
  case atStart => exact ⟨_, 0, D0, rfl, Nat.zero_le _, rfl, rfl, HM.out, hI.out.1, hI.out.2⟩
  case round =>
    obtain ⟨w1, r, E, rfl, hr, rfl, rfl, hm1, hN1, hF1⟩ := hrel
    have H1 := hid (And.intro hm1 (And.intro hN1 hF1))
    obtain ⟨c0, c1⟩ := hm1.bx
    clear hm1 hN1 hF1 hI
    by_cases hlt : r ≤ n
    · have hltz : (r : Int) ≤ (n : Int) := by omega
      go_wp2
      go_loopg [5, 6] n (fun gk x5 x6 wr => ∃ (w2 : World) (i : Nat) (D : List Bool), w2 = wr ∧ i ≤ n ∧ gk = n - i ∧ x5 = .int .i64 i ∧ Mk w w.heap.size g ao n c out D w2 ∧ Ni (insL L) out E i D)
      case atStart => exact ⟨_, 0, E, rfl, Nat.zero_le _, rfl, rfl, H1.out.1, ni_start H1.out.2.1⟩
      case round =>
        obtain ⟨w2, i, D, rfl, hi, rfl, rfl, hm2, hN2⟩ := hrel
        have H2 := hid (And.intro hm2 hN2)
        obtain ⟨d0, d1⟩ := hm2.bx
        clear hm2 hN2 c0 c1
        by_cases hilt : i < n
        · have hiltz : (i : Int) < (n : Int) := by omega
          have e0 := ot_bt0 H2.out.1.d hilt
          have f0 := ot_fz0 H2.out.1.d hilt
          rcases hb : bt D i with _ | _
          · by_cases ho : (i : Int) = out
            · have hoz : ((i : Int) == out) = true := by simp [ho]
              have HB : Hid (Mk w w.heap.size g ao n c out (D.set i true) (w2.setCell ⟨g, i, none⟩ (.bool true)) ∧ Nk (insL L) out E i 0 (D.set i true)) := ⟨mk_set H2.out.1 hilt true, nk_first H2.out.2 (by rw [hG.out]; exact hilt) (by rw [hb]; simp [ho])⟩
              rw [hb] at e0
              clear hb ho
              go_wp2
              go_loopg [6] n (fun gk x6 wr => ∃ (w3 : World) (k : Nat) (D3 : List Bool), w3 = wr ∧ k ≤ n ∧ gk = n - k ∧ x6 = .int .i64 k ∧ Mk w w.heap.size g ao n c out D3 w3 ∧ Nk (insL L) out E i k D3)
              case atStart => exact ⟨_, 0, _, rfl, Nat.zero_le _, rfl, rfl, HB.out.1, HB.out.2⟩
              case round =>
                obtain ⟨w3, k, D3, rfl, hk, rfl, rfl, hm3, hN3⟩ := hrel
                have H3 := hid (And.intro hm3 hN3)
                obtain ⟨g0, g1⟩ := hm3.bx
                clear hm3 hN3 d0 d1 HB
                by_cases hklt : k < n
                · have hklz : (k : Int) < (n : Int) := by omega
                  have e1 := ot_bt0 H3.out.1.d hilt
                  have e2 := ot_bt0 H3.out.1.d hklt
                  have f2 := ot_fz0 H3.out.1.d hklt
                  rcases hbi : bt D3 i with _ | _
                  · have HBi := hid hbi
                    rw [hbi] at e1
                    clear hbi e2 f2
                    go_wp2
                    go_roundg (n - (i + 1))
                    case measure => omega
                    case rel => exact ⟨_, i + 1, D3, rfl, hilt, rfl, by simp, H3.out.1, nk_end H3.out.2 (Or.inr HBi.out)⟩
                  · have HBi := hid hbi
                    rw [hbi] at e1
                    clear hbi
                    rcases hbk : bt D3 k with _ | _
                    · have HBk := hid hbk
                      rw [hbk] at e2
                      clear hbk
                      rcases hh : hasB (insL L) i k with _ | _
                      · have HC := hid (has_c hh)
                        have HH := hid hh
                        clear hh
                        go_wp2_with (first
                          | (go_at_call 25; with_reducible refine Calls.mono (has25_any _ _ _ b off L _ i _ _ (H.out.1.below H3.out.1.low) H.out.2.1 ‹_›) ?_; rintro e w4 ⟨rfl, hb⟩; have HM4 := hid (H3.out.1.below hb); clear hb e1 e2 f2 g0 g1; have e3 := ot_bt0 HM4.out.d hklt; have f3 := ot_fz0 HM4.out.d hklt; rw [HC.out]))
                        go_roundg (n - (k + 1))
                        case measure => omega
                        case rel => exact ⟨_, k + 1, D3.set k false, rfl, hklt, rfl, by simp, mk_set HM4.out hklt false, nk_step H3.out.2 (by rw [hG.out]; exact hilt) (by rw [hG.out]; exact hklt) HBi.out (by rw [HBk.out, HH.out]; simp)⟩
                      · have HC := hid (has_c hh)
                        have HH := hid hh
                        clear hh
                        go_wp2_with (first
                          | (go_at_call 25; with_reducible refine Calls.mono (has25_any _ _ _ b off L _ i _ _ (H.out.1.below H3.out.1.low) H.out.2.1 ‹_›) ?_; rintro e w4 ⟨rfl, hb⟩; have HM4 := hid (H3.out.1.below hb); clear hb e1 e2 f2 g0 g1; have e3 := ot_bt0 HM4.out.d hklt; have f3 := ot_fz0 HM4.out.d hklt; rw [HC.out]))
                        go_roundg (n - (k + 1))
                        case measure => omega
                        case rel => exact ⟨_, k + 1, D3.set k true, rfl, hklt, rfl, by simp, mk_set HM4.out hklt true, nk_step H3.out.2 (by rw [hG.out]; exact hilt) (by rw [hG.out]; exact hklt) HBi.out (by rw [HBk.out, HH.out]; simp)⟩
                    · have HBk := hid hbk
                      rw [hbk] at e2
                      clear hbk
                      go_wp2
                      go_roundg (n - (k + 1))
                      case measure => omega
                      case rel => exact ⟨_, k + 1, D3.set k true, rfl, hklt, rfl, by simp, mk_set H3.out.1 hklt true, nk_step H3.out.2 (by rw [hG.out]; exact hilt) (by rw [hG.out]; exact hklt) HBi.out (by rw [HBk.out]; simp)⟩
                · obtain rfl : k = n := by omega
                  go_wp2
                  go_roundg (k - (i + 1))
                  case measure => omega
                  case rel => exact ⟨_, i + 1, D3, rfl, hilt, rfl, by simp, H3.out.1, nk_end H3.out.2 (Or.inl hG.out.symm)⟩
            · have hoz : ((i : Int) == out) = false := by simp [ho]
              have HB : Hid (Mk w w.heap.size g ao n c out (D.set i false) (w2.setCell ⟨g, i, none⟩ (.bool false)) ∧ Nk (insL L) out E i 0 (D.set i false)) := ⟨mk_set H2.out.1 hilt false, nk_first H2.out.2 (by rw [hG.out]; exact hilt) (by rw [hb]; simp [ho])⟩
              rw [hb] at e0
              clear hb ho
              go_wp2
              go_loopg [6] n (fun gk x6 wr => ∃ (w3 : World) (k : Nat) (D3 : List Bool), w3 = wr ∧ k ≤ n ∧ gk = n - k ∧ x6 = .int .i64 k ∧ Mk w w.heap.size g ao n c out D3 w3 ∧ Nk (insL L) out E i k D3)
              case atStart => exact ⟨_, 0, _, rfl, Nat.zero_le _, rfl, rfl, HB.out.1, HB.out.2⟩
              case round =>
                obtain ⟨w3, k, D3, rfl, hk, rfl, rfl, hm3, hN3⟩ := hrel
                have H3 := hid (And.intro hm3 hN3)
                obtain ⟨g0, g1⟩ := hm3.bx
                clear hm3 hN3 d0 d1 HB
                by_cases hklt : k < n
                · have hklz : (k : Int) < (n : Int) := by omega
                  have e1 := ot_bt0 H3.out.1.d hilt
                  have e2 := ot_bt0 H3.out.1.d hklt
                  have f2 := ot_fz0 H3.out.1.d hklt
                  rcases hbi : bt D3 i with _ | _
                  · have HBi := hid hbi
                    rw [hbi] at e1
                    clear hbi e2 f2
                    go_wp2
                    go_roundg (n - (i + 1))
                    case measure => omega
                    case rel => exact ⟨_, i + 1, D3, rfl, hilt, rfl, by simp, H3.out.1, nk_end H3.out.2 (Or.inr HBi.out)⟩
                  · have HBi := hid hbi
                    rw [hbi] at e1
                    clear hbi
                    rcases hbk : bt D3 k with _ | _
                    · have HBk := hid hbk
                      rw [hbk] at e2
                      clear hbk
                      rcases hh : hasB (insL L) i k with _ | _
                      · have HC := hid (has_c hh)
                        have HH := hid hh
                        clear hh
                        go_wp2_with (first
                          | (go_at_call 25; with_reducible refine Calls.mono (has25_any _ _ _ b off L _ i _ _ (H.out.1.below H3.out.1.low) H.out.2.1 ‹_›) ?_; rintro e w4 ⟨rfl, hb⟩; have HM4 := hid (H3.out.1.below hb); clear hb e1 e2 f2 g0 g1; have e3 := ot_bt0 HM4.out.d hklt; have f3 := ot_fz0 HM4.out.d hklt; rw [HC.out]))
                        go_roundg (n - (k + 1))
                        case measure => omega
                        case rel => exact ⟨_, k + 1, D3.set k false, rfl, hklt, rfl, by simp, mk_set HM4.out hklt false, nk_step H3.out.2 (by rw [hG.out]; exact hilt) (by rw [hG.out]; exact hklt) HBi.out (by rw [HBk.out, HH.out]; simp)⟩
                      · have HC := hid (has_c hh)
                        have HH := hid hh
                        clear hh
                        go_wp2_with (first
                          | (go_at_call 25; with_reducible refine Calls.mono (has25_any _ _ _ b off L _ i _ _ (H.out.1.below H3.out.1.low) H.out.2.1 ‹_›) ?_; rintro e w4 ⟨rfl, hb⟩; have HM4 := hid (H3.out.1.below hb); clear hb e1 e2 f2 g0 g1; have e3 := ot_bt0 HM4.out.d hklt; have f3 := ot_fz0 HM4.out.d hklt; rw [HC.out]))
                        go_roundg (n - (k + 1))
                        case measure => omega
                        case rel => exact ⟨_, k + 1, D3.set k true, rfl, hklt, rfl, by simp, mk_set HM4.out hklt true, nk_step H3.out.2 (by rw [hG.out]; exact hilt) (by rw [hG.out]; exact hklt) HBi.out (by rw [HBk.out, HH.out]; simp)⟩
                    · have HBk := hid hbk
                      rw [hbk] at e2
                      clear hbk
                      go_wp2
                      go_roundg (n - (k + 1))
                      case measure => omega
                      case rel => exact ⟨_, k + 1, D3.set k true, rfl, hklt, rfl, by simp, mk_set H3.out.1 hklt true, nk_step H3.out.2 (by rw [hG.out]; exact hilt) (by rw [hG.out]; exact hklt) HBi.out (by rw [HBk.out]; simp)⟩
                · obtain rfl : k = n := by omega
                  go_wp2
                  go_roundg (k - (i + 1))
                  case measure => omega
                  case rel => exact ⟨_, i + 1, D3, rfl, hilt, rfl, by simp, H3.out.1, nk_end H3.out.2 (Or.inl hG.out.symm)⟩
          · have HB : Hid (Mk w w.heap.size g ao n c out (D.set i true) (w2.setCell ⟨g, i, none⟩ (.bool true)) ∧ Nk (insL L) out E i 0 (D.set i true)) := ⟨mk_set H2.out.1 hilt true, nk_first H2.out.2 (by rw [hG.out]; exact hilt) (by rw [hb]; simp)⟩
            rw [hb] at e0
            clear hb
            go_wp2
            go_loopg [6] n (fun gk x6 wr => ∃ (w3 : World) (k : Nat) (D3 : List Bool), w3 = wr ∧ k ≤ n ∧ gk = n - k ∧ x6 = .int .i64 k ∧ Mk w w.heap.size g ao n c out D3 w3 ∧ Nk (insL L) out E i k D3)
            case atStart => exact ⟨_, 0, _, rfl, Nat.zero_le _, rfl, rfl, HB.out.1, HB.out.2⟩
            case round =>
              obtain ⟨w3, k, D3, rfl, hk, rfl, rfl, hm3, hN3⟩ := hrel
              have H3 := hid (And.intro hm3 hN3)
              obtain ⟨g0, g1⟩ := hm3.bx
              clear hm3 hN3 d0 d1 HB
              by_cases hklt : k < n
              · have hklz : (k : Int) < (n : Int) := by omega
                have e1 := ot_bt0 H3.out.1.d hilt
                have e2 := ot_bt0 H3.out.1.d hklt
                have f2 := ot_fz0 H3.out.1.d hklt
                rcases hbi : bt D3 i with _ | _
                · have HBi := hid hbi
                  rw [hbi] at e1
                  clear hbi e2 f2
                  go_wp2
                  go_roundg (n - (i + 1))
                  case measure => omega
                  case rel => exact ⟨_, i + 1, D3, rfl, hilt, rfl, by simp, H3.out.1, nk_end H3.out.2 (Or.inr HBi.out)⟩
                · have HBi := hid hbi
                  rw [hbi] at e1
                  clear hbi
                  rcases hbk : bt D3 k with _ | _
                  · have HBk := hid hbk
                    rw [hbk] at e2
                    clear hbk
                    rcases hh : hasB (insL L) i k with _ | _
                    · have HC := hid (has_c hh)
                      have HH := hid hh
                      clear hh
                      go_wp2_with (first
                        | (go_at_call 25; with_reducible refine Calls.mono (has25_any _ _ _ b off L _ i _ _ (H.out.1.below H3.out.1.low) H.out.2.1 ‹_›) ?_; rintro e w4 ⟨rfl, hb⟩; have HM4 := hid (H3.out.1.below hb); clear hb e1 e2 f2 g0 g1; have e3 := ot_bt0 HM4.out.d hklt; have f3 := ot_fz0 HM4.out.d hklt; rw [HC.out]))
                      go_roundg (n - (k + 1))
                      case measure => omega
                      case rel => exact ⟨_, k + 1, D3.set k false, rfl, hklt, rfl, by simp, mk_set HM4.out hklt false, nk_step H3.out.2 (by rw [hG.out]; exact hilt) (by rw [hG.out]; exact hklt) HBi.out (by rw [HBk.out, HH.out]; simp)⟩
                    · have HC := hid (has_c hh)
                      have HH := hid hh
                      clear hh
                      go_wp2_with (first
                        | (go_at_call 25; with_reducible refine Calls.mono (has25_any _ _ _ b off L _ i _ _ (H.out.1.below H3.out.1.low) H.out.2.1 ‹_›) ?_; rintro e w4 ⟨rfl, hb⟩; have HM4 := hid (H3.out.1.below hb); clear hb e1 e2 f2 g0 g1; have e3 := ot_bt0 HM4.out.d hklt; have f3 := ot_fz0 HM4.out.d hklt; rw [HC.out]))
                      go_roundg (n - (k + 1))
                      case measure => omega
                      case rel => exact ⟨_, k + 1, D3.set k true, rfl, hklt, rfl, by simp, mk_set HM4.out hklt true, nk_step H3.out.2 (by rw [hG.out]; exact hilt) (by rw [hG.out]; exact hklt) HBi.out (by rw [HBk.out, HH.out]; simp)⟩
                  · have HBk := hid hbk
                    rw [hbk] at e2
                    clear hbk
                    go_wp2
                    go_roundg (n - (k + 1))
                    case measure => omega
                    case rel => exact ⟨_, k + 1, D3.set k true, rfl, hklt, rfl, by simp, mk_set H3.out.1 hklt true, nk_step H3.out.2 (by rw [hG.out]; exact hilt) (by rw [hG.out]; exact hklt) HBi.out (by rw [HBk.out]; simp)⟩
              · obtain rfl : k = n := by omega
                go_wp2
                go_roundg (k - (i + 1))
                case measure => omega
                case rel => exact ⟨_, i + 1, D3, rfl, hilt, rfl, by simp, H3.out.1, nk_end H3.out.2 (Or.inl hG.out.symm)⟩
        · obtain rfl : i = n := by omega
          go_wp2
          go_roundg (i + 1 - (r + 1))
          case measure => omega
          case rel => exact ⟨_, r + 1, D, rfl, by omega, rfl, by simp, H2.out.1, H2.out.2.r, ni_end (by rw [hG.out]; exact H2.out.2) H1.out.2.1 H1.out.2.2⟩
    · obtain rfl : r = n + 1 := by omega
      go_wp2
      go_ret
      exact ⟨⟨E, ⟨_, _, _, _, _, rfl, H1.out.1.d⟩, far_end (by rw [hG.out]; exact H1.out.2.2) H1.out.2.1⟩, H1.out.1.low⟩
end Go.Proofs.Ytccbgekijnkhpaa
