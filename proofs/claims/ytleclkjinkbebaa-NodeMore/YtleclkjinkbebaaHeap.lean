/- heap's own functions: contracts. -/
import Derived.Test.YtleclkjinkbebaaMeth
namespace Go.Proofs.Ytleclkjinkbebaa
open Num Go.RowKit
set_option linter.unusedVariables false
set_option linter.unusedSimpArgs false

set_option maxRecDepth 100000 in
set_option maxHeartbeats 1000000 in
theorem up_any (B k : Nat) (ao : Option Addr) (n c b off : Nat) (l : List Int) (j : Nat) (w : World) (h : Hp B w k ao n c b off l) (hB0 : B ≤ w.heap.size) (hj : j < n) (hu : upI n l j) :
    Calls Try.prog 39 #[.iface 53 (.pointer (some ⟨k, 0, none⟩)), .int .i64 j] w fun e w' => e = .returned (.tuple #[]) ∧ (∃ l', heapN n l' ∧ l'.Perm l ∧ Hp B w' k ao n c b off l') ∧ Hb B k c b w w' := by
  have hn := vz_small h.own.v
  go_enter Try.func39, Try.ntmps39
  go_wp2
  go_loopg [1] j (fun g i wr => ∃ l', g < n ∧ i = .int .i64 g ∧ upI n l' g ∧ l'.Perm l ∧ Hp B wr k ao n c b off l' ∧ Hb B k c b w wr)
  case atStart => exact ⟨l, hj, rfl, hu, List.Perm.refl _, h, Hb.refl _ _ _ _ _⟩
  case round =>
    obtain ⟨l', hg, rfl, hu', hp, h', hB⟩ := hrel
    have m1 := meth_by find_Less h'.cell
    have H := hid (And.intro hu' (And.intro hp (And.intro h' hB)))
    clear h hu hu' hp h' hB
    by_cases h0 : gk = 0
    · subst h0
      go_wp2
      go_returns
      obtain ⟨hu, hp, h, hB⟩ := H.out
      exact ⟨rfl, ⟨l', up_top hu, hp, h⟩, hB⟩
    · obtain ⟨q, hq⟩ : ∃ q, q = (gk - 1) / 2 := ⟨_, rfl⟩
      have hqz : ((gk : Int) - 1) / 2 = (q : Int) := by omega
      have hqn : ¬ ((q : Int) = (gk : Int)) := by omega
      have hqlt : q < n := by omega
      have Hq := hid hq
      clear hq
      rcases hlt : decide (nth l' gk < nth l' q) with _ | _
      · have HL := hid hlt
        clear hlt
        go_wp2_with (first
          | (go_at_call 58; with_reducible refine Calls.mono (less_any _ _ _ b off l' gk q _ H.out.2.2.1.own.v ‹_› ‹_›) ?_; rintro e w1 ⟨rfl, hb⟩; rw [HL.out]))
        go_returns
        obtain ⟨hu, hp, h, hB⟩ := H.out
        have hle := HL.out
        rw [Hq.out] at hle
        simp at hle
        exact ⟨rfl, ⟨l', up_end hu hle, hp, hp_below h hb⟩, hb_via hB0 hB hb⟩
      · have HL := hid hlt
        clear hlt
        go_wp2_with (first
          | (go_at_call 58; with_reducible refine Calls.mono (less_any _ _ _ b off l' gk q _ H.out.2.2.1.own.v ‹_› ‹_›) ?_; rintro e w1 ⟨rfl, hb⟩; rw [HL.out]; have H1 := hid (hp_below H.out.2.2.1 hb); have HB := hid (hb_via hB0 H.out.2.2.2 hb); clear m1 hb; have m2 := meth_by find_Swap H1.out.cell)
          | (go_at_call 61; with_reducible refine Calls.mono (swap_any B _ _ _ b off l' q gk _ H1.out.own ‹_› ‹_›) ?_; rintro e w2 ⟨rfl, ho, hb⟩; have H2 := hid (hp_swap H1.out (Nat.lt_of_le_of_lt (Nat.zero_le _) hg) ho hb); clear m2 ho hb))
        go_roundg q
        case measure => have := Hq.out; omega
        case rel =>
          obtain ⟨hu, hp, h, hB⟩ := H.out
          have hl := hp_len h
          have hlt := HL.out
          rw [Hq.out] at hlt
          simp at hlt
          have e := Hq.out
          exact ⟨swapL l' q gk, hqlt, rfl, by rw [e]; exact up_step hu (by omega) (by omega) hg hlt, (swap_perm (by omega) (by omega)).trans hp, H2.out.1, HB.out.trans H2.out.2⟩

set_option maxRecDepth 100000 in
set_option maxHeartbeats 1000000 in
theorem down_any (B k : Nat) (ao : Option Addr) (n c b off : Nat) (l : List Int) (w : World) (h : Hp B w k ao (n + 1) c b off l) (hB0 : B ≤ w.heap.size) (hn1 : n ≤ 1000000) (hu : downI n l 0) :
    Calls Try.prog 41 #[.iface 53 (.pointer (some ⟨k, 0, none⟩)), .int .i64 0, .int .i64 n] w fun e w' => (∃ x, e = .returned (.bool x)) ∧ (∃ l', heapN n l' ∧ l'.Perm l ∧ nth l' n = nth l n ∧ Hp B w' k ao (n + 1) c b off l') ∧ Hb B k c b w w' := by
  go_enter Try.func41, Try.ntmps41
  go_wp2
  go_loopg [7] (n + 1) (fun g i wr => ∃ (p : Nat) (l' : List Int), p ≤ n ∧ g = n + 1 - p ∧ i = .int .i64 p ∧ downI n l' p ∧ l'.Perm l ∧ nth l' n = nth l n ∧ Hp B wr k ao (n + 1) c b off l' ∧ Hb B k c b w wr)
  case atStart => exact ⟨0, l, Nat.zero_le _, rfl, rfl, hu, List.Perm.refl _, rfl, h, Hb.refl _ _ _ _ _⟩
  case round =>
    obtain ⟨p, l', hp, rfl, rfl, hu', hpe, hla, h', hB⟩ := hrel
    have m1 := meth_by find_Less h'.cell
    have H := hid (And.intro hu' (And.intro hpe (And.intro hla (And.intro h' hB))))
    clear h hu hu' hpe hla h' hB
    by_cases hleaf : 2 * p + 1 < n
    · obtain ⟨j1, hj1⟩ : ∃ j1, j1 = 2 * p + 1 := ⟨_, rfl⟩
      obtain ⟨j2, hj2⟩ : ∃ j2, j2 = 2 * p + 2 := ⟨_, rfl⟩
      have z1 : 2 * (p : Int) + 1 = (j1 : Int) := by omega
      have z2 : (j1 : Int) + 1 = (j2 : Int) := by omega
      have z3 : ¬ ((n : Int) ≤ (j1 : Int)) := by omega
      have z4 : ¬ ((j1 : Int) < 0) := by omega
      have b1 : j1 < n + 1 := by omega
      have b0 : p < n + 1 := by omega
      have E := hid (And.intro hj1 hj2)
      clear hj1 hj2
      by_cases hsnd : j2 < n
      · have b2 : j2 < n + 1 := by omega
        have z5 : (j2 : Int) < (n : Int) := by omega
        rcases hlt : decide (nth l' j2 < nth l' j1) with _ | _
        · have HL := hid hlt
          clear hlt
          have Hle := hid (show lesser n l' p j1 from by
            have h1 := HL.out
            have hs := hsnd
            obtain ⟨e1, e2⟩ := E.out
            subst e1; subst e2
            simp at h1
            exact lesser_fst hs (by omega))
          rcases hm : decide (nth l' j1 < nth l' p) with _ | _
          · have HM := hid hm
            clear hm
            go_wp2_with (first | (go_at_call 58; with_reducible refine Calls.mono (less_any _ _ _ b off l' j2 j1 _ H.out.2.2.2.1.own.v ‹_› ‹_›) ?_; rintro e w1 ⟨rfl, hb⟩; rw [HL.out]; have H1 := hid (hp_below H.out.2.2.2.1 hb); have HB := hid (hb_via hB0 H.out.2.2.2.2 hb); clear m1 hb; have m2 := meth_by find_Less H1.out.cell) | (go_at_call 58; with_reducible refine Calls.mono (less_any _ _ _ b off l' j1 p _ H1.out.own.v ‹_› ‹_›) ?_; rintro e w2 ⟨rfl, hb⟩; rw [HM.out]; have H2 := hid (hp_below H1.out hb); have HB2 := hid (hb_via hB0 HB.out hb); clear m2 hb; have m3 := meth_by find_Swap H2.out.cell))
            go_ret
            obtain ⟨hu, hpe, hla, h, hB⟩ := H.out
            have hle := HM.out
            simp at hle
            exact ⟨⟨_, rfl⟩, ⟨l', down_end hu Hle.out (by omega), hpe, hla, H2.out⟩, HB2.out⟩
          · have HM := hid hm
            clear hm
            go_wp2_with (first | (go_at_call 58; with_reducible refine Calls.mono (less_any _ _ _ b off l' j2 j1 _ H.out.2.2.2.1.own.v ‹_› ‹_›) ?_; rintro e w1 ⟨rfl, hb⟩; rw [HL.out]; have H1 := hid (hp_below H.out.2.2.2.1 hb); have HB := hid (hb_via hB0 H.out.2.2.2.2 hb); clear m1 hb; have m2 := meth_by find_Less H1.out.cell) | (go_at_call 58; with_reducible refine Calls.mono (less_any _ _ _ b off l' j1 p _ H1.out.own.v ‹_› ‹_›) ?_; rintro e w2 ⟨rfl, hb⟩; rw [HM.out]; have H2 := hid (hp_below H1.out hb); have HB2 := hid (hb_via hB0 HB.out hb); clear m2 hb; have m3 := meth_by find_Swap H2.out.cell) | (go_at_call 61; with_reducible refine Calls.mono (swap_any B _ _ _ b off l' p j1 _ H2.out.own ‹_› ‹_›) ?_; rintro e w3 ⟨rfl, ho, hb⟩; have H3 := hid (hp_swap H2.out (Nat.succ_pos n) ho hb); clear m3 ho hb))
            go_roundg (n + 1 - j1)
            case measure => have := Hle.out.1; have := Hle.out.2.1; have := Hle.out.2.2.1; omega
            case rel =>
              obtain ⟨hu, hpe, hla, h, hB⟩ := H.out
              have hlt := HM.out
              have hl := hp_len h
              simp at hlt
              have hj := Hle.out.2.1
              exact ⟨j1, swapL l' p j1, by omega, rfl, rfl, down_step hu (by omega) Hle.out hlt, (swap_perm (by omega) (by omega)).trans hpe, (swap_last (by omega) (by omega)).trans hla, H3.out.1, HB2.out.trans H3.out.2⟩
        · have HL := hid hlt
          clear hlt
          have Hle := hid (show lesser n l' p j2 from by
            have h1 := HL.out
            have hs := hsnd
            obtain ⟨e1, e2⟩ := E.out
            subst e1; subst e2
            simp at h1
            exact lesser_snd hs h1)
          rcases hm : decide (nth l' j2 < nth l' p) with _ | _
          · have HM := hid hm
            clear hm
            go_wp2_with (first | (go_at_call 58; with_reducible refine Calls.mono (less_any _ _ _ b off l' j2 j1 _ H.out.2.2.2.1.own.v ‹_› ‹_›) ?_; rintro e w1 ⟨rfl, hb⟩; rw [HL.out]; have H1 := hid (hp_below H.out.2.2.2.1 hb); have HB := hid (hb_via hB0 H.out.2.2.2.2 hb); clear m1 hb; have m2 := meth_by find_Less H1.out.cell) | (go_at_call 58; with_reducible refine Calls.mono (less_any _ _ _ b off l' j2 p _ H1.out.own.v ‹_› ‹_›) ?_; rintro e w2 ⟨rfl, hb⟩; rw [HM.out]; have H2 := hid (hp_below H1.out hb); have HB2 := hid (hb_via hB0 HB.out hb); clear m2 hb; have m3 := meth_by find_Swap H2.out.cell))
            go_ret
            obtain ⟨hu, hpe, hla, h, hB⟩ := H.out
            have hle := HM.out
            simp at hle
            exact ⟨⟨_, rfl⟩, ⟨l', down_end hu Hle.out (by omega), hpe, hla, H2.out⟩, HB2.out⟩
          · have HM := hid hm
            clear hm
            go_wp2_with (first | (go_at_call 58; with_reducible refine Calls.mono (less_any _ _ _ b off l' j2 j1 _ H.out.2.2.2.1.own.v ‹_› ‹_›) ?_; rintro e w1 ⟨rfl, hb⟩; rw [HL.out]; have H1 := hid (hp_below H.out.2.2.2.1 hb); have HB := hid (hb_via hB0 H.out.2.2.2.2 hb); clear m1 hb; have m2 := meth_by find_Less H1.out.cell) | (go_at_call 58; with_reducible refine Calls.mono (less_any _ _ _ b off l' j2 p _ H1.out.own.v ‹_› ‹_›) ?_; rintro e w2 ⟨rfl, hb⟩; rw [HM.out]; have H2 := hid (hp_below H1.out hb); have HB2 := hid (hb_via hB0 HB.out hb); clear m2 hb; have m3 := meth_by find_Swap H2.out.cell) | (go_at_call 61; with_reducible refine Calls.mono (swap_any B _ _ _ b off l' p j2 _ H2.out.own ‹_› ‹_›) ?_; rintro e w3 ⟨rfl, ho, hb⟩; have H3 := hid (hp_swap H2.out (Nat.succ_pos n) ho hb); clear m3 ho hb))
            go_roundg (n + 1 - j2)
            case measure => have := Hle.out.1; have := Hle.out.2.1; have := Hle.out.2.2.1; omega
            case rel =>
              obtain ⟨hu, hpe, hla, h, hB⟩ := H.out
              have hlt := HM.out
              have hl := hp_len h
              simp at hlt
              have hj := Hle.out.2.1
              exact ⟨j2, swapL l' p j2, by omega, rfl, rfl, down_step hu (by omega) Hle.out hlt, (swap_perm (by omega) (by omega)).trans hpe, (swap_last (by omega) (by omega)).trans hla, H3.out.1, HB2.out.trans H3.out.2⟩
      · have z5 : ¬ ((j2 : Int) < (n : Int)) := by omega
        have Hle := hid (show lesser n l' p j1 from by
          have hs := hsnd
          obtain ⟨e1, e2⟩ := E.out
          subst e1; subst e2
          exact lesser_one hleaf hs)
        rcases hm : decide (nth l' j1 < nth l' p) with _ | _
        · have HM := hid hm
          clear hm
          go_wp2_with (first | (go_at_call 58; with_reducible refine Calls.mono (less_any _ _ _ b off l' j1 p _ H.out.2.2.2.1.own.v ‹_› ‹_›) ?_; rintro e w2 ⟨rfl, hb⟩; rw [HM.out]; have H2 := hid (hp_below H.out.2.2.2.1 hb); have HB2 := hid (hb_via hB0 H.out.2.2.2.2 hb); clear m1 hb; have m3 := meth_by find_Swap H2.out.cell))
          go_ret
          obtain ⟨hu, hpe, hla, h, hB⟩ := H.out
          have hle := HM.out
          simp at hle
          exact ⟨⟨_, rfl⟩, ⟨l', down_end hu Hle.out (by omega), hpe, hla, H2.out⟩, HB2.out⟩
        · have HM := hid hm
          clear hm
          go_wp2_with (first | (go_at_call 58; with_reducible refine Calls.mono (less_any _ _ _ b off l' j1 p _ H.out.2.2.2.1.own.v ‹_› ‹_›) ?_; rintro e w2 ⟨rfl, hb⟩; rw [HM.out]; have H2 := hid (hp_below H.out.2.2.2.1 hb); have HB2 := hid (hb_via hB0 H.out.2.2.2.2 hb); clear m1 hb; have m3 := meth_by find_Swap H2.out.cell) | (go_at_call 61; with_reducible refine Calls.mono (swap_any B _ _ _ b off l' p j1 _ H2.out.own ‹_› ‹_›) ?_; rintro e w3 ⟨rfl, ho, hb⟩; have H3 := hid (hp_swap H2.out (Nat.succ_pos n) ho hb); clear m3 ho hb))
          go_roundg (n + 1 - j1)
          case measure => have := Hle.out.1; have := Hle.out.2.1; have := Hle.out.2.2.1; omega
          case rel =>
            obtain ⟨hu, hpe, hla, h, hB⟩ := H.out
            have hlt := HM.out
            have hl := hp_len h
            simp at hlt
            have hj := Hle.out.2.1
            exact ⟨j1, swapL l' p j1, by omega, rfl, rfl, down_step hu (by omega) Hle.out hlt, (swap_perm (by omega) (by omega)).trans hpe, (swap_last (by omega) (by omega)).trans hla, H3.out.1, HB2.out.trans H3.out.2⟩
    · have z1 : (n : Int) ≤ 2 * (p : Int) + 1 := by omega
      go_wp2
      go_ret
      obtain ⟨hu, hpe, hla, h, hB⟩ := H.out
      exact ⟨⟨_, rfl⟩, ⟨l', down_leaf hu (by omega), hpe, hla, h⟩, hB⟩
end Go.Proofs.Ytleclkjinkbebaa
