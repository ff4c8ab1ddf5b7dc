/- Numbers put into a list that rises: the contract. -/
import Derived.Test.YtlakklpnajgjiaaStrip
namespace Go.Proofs.Ytlakklpnajgjiaa
open Num Go.RowKit
set_option linter.unusedVariables false
attribute [local go_sem ↓] run_app
attribute [local go_sem] lenV_slice

theorem info3 : (Try.prog.info? 3).map (fun i => (i.zero, i.size, i.bytes)) = some (some (.int .i64 0), 1, 8) := by kernel_rfl

theorem app_int {B : Nat} {w : World} {ao : Option Addr} {n c b off : Nat} {l : List Int} (h : Oi B w ao n c b off l) (hB : B ≤ w.heap.size) (hn : n ≤ 4000000000000) (x : Int) :
    ∃ b' off', App 1 B #[49, 49] 49 (w.alloc (.cells #[.int .i64 x] 3)) ao n c b (ints l) (.slice (some ⟨w.heap.size, 0, none⟩) 1 1) 1 [.int .i64 x] b' off' := by
  refine app_own (h.below ((Below.refl _ _).alloc (Nat.le_refl _) _)) (by simp; omega) 49 49 49 3 _ 8 Try.underlying49 info3 rfl _ 1 [.int .i64 x] ?_ (by simp only [maxLen]; omega) (by omega)
  refine Src.ofSlice _ Try.underlying49 ⟨w.heap.size, 0, none⟩ 1 1 [.int .i64 x] rfl (fun j u hu => ?_) (fun u hu => ?_)
  · rw [Addr.add_lit, Nat.zero_add]
    match j, hu with
    | 0, hu => rw [← hu]; simp
    | j + 1, hu => simp at hu
  · simp only [List.mem_cons, List.not_mem_nil, or_false] at hu
    subst hu; rfl
theorem app_rect {B : Nat} {w : World} {ao : Option Addr} {n c b off : Nat} {l : List R} (h : Ow B w ao n c b off l) (hB : B ≤ w.heap.size) (hn : n ≤ 4000000000000) (r : R) :
    ∃ b' off', App 4 B #[27, 27] 27 (w.alloc (.cells #[.int .i64 r.x0, .int .i64 r.y0, .int .i64 r.x1, .int .i64 r.y1] 36)) ao n c b (flat l) (.slice (some ⟨w.heap.size, 0, none⟩) 1 1) 1 (cells4 r) b' off' :=
  app_own (h.below ((Below.refl _ _).alloc (Nat.le_refl _) _)) (by simp; omega) 27 27 27 36 _ 32 Try.underlying27 info36 rfl _ 1 (cells4 r) (srcR _ _ _ (by simp)) (by simp only [maxLen]; omega) (by omega)

theorem oi_app {B : Nat} {w : World} {ao : Option Addr} {n c b' off' : Nat} {l : List Int} {x : Int} (h : Oz 1 B w ao n c b' off' (ints l ++ [.int .i64 x])) : Oi B w ao n c b' off' (l ++ [x]) := by
  rw [show ints l ++ [Value.int .i64 x] = ints (l ++ [x]) by rw [ints_append]; rfl] at h
  exact h
theorem ow_app {B : Nat} {w : World} {ao : Option Addr} {n c b' off' : Nat} {l : List R} {r : R} (h : Oz 4 B w ao n c b' off' (flat l ++ cells4 r)) : Ow B w ao n c b' off' (l ++ [r]) := by
  rw [show flat l ++ cells4 r = flat (l ++ [r]) by rw [flat_append]; rfl] at h
  exact h
theorem oi_len {B : Nat} {w : World} {ao : Option Addr} {n c b off : Nat} {l : List Int} (h : Oi B w ao n c b off l) : l.length = n := vi_len h.v
def RetI (B : Nat) (w : World) (e : Ending) (l : List Int) : Prop := ∃ ao n c b off, e = .returned (.slice ao n c) ∧ Oi B w ao n c b off l
theorem retI {B : Nat} {w : World} {e : Ending} {l : List Int} (h : RetI B w e l) : ∃ ao n c b off, e = .returned (.slice ao n c) ∧ Oi B w ao n c b off l := h

theorem filter_yes {p : Int → Bool} {l : List Int} {k : Nat} {m : Int} (h : l[k]? = some m) (hp : p m = true) : (l.take (k + 1)).filter p = (l.take k).filter p ++ [m] := by
  obtain ⟨hk, rfl⟩ := List.getElem?_eq_some_iff.1 h
  rw [List.take_succ_eq_append_getElem hk, List.filter_append]
  simp [hp]
theorem filter_no {p : Int → Bool} {l : List Int} {k : Nat} {m : Int} (h : l[k]? = some m) (hp : p m = false) : (l.take (k + 1)).filter p = (l.take k).filter p := by
  obtain ⟨hk, rfl⟩ := List.getElem?_eq_some_iff.1 h
  rw [List.take_succ_eq_append_getElem hk, List.filter_append]
  simp [hp]

set_option maxRecDepth 100000 in
set_option maxHeartbeats 2000000 in
theorem put_any (W : World) (ao : Option Addr) (n c b off : Nat) (l : List Int) (x : Int) (h : Vi W ao n c b off l) (hN : n ≤ 1000000) :
    Calls Try.prog 41 #[.slice ao n c, .int .i64 x] W fun e w' => RetI W.heap.size w' e (putL l x) ∧ Below W.heap.size W w' := by
  have H : Hid (Vi W ao n c b off l ∧ l.length = n) := ⟨h, vi_len h⟩
  clear h
  go_enter Try.func41, Try.ntmps41
  go_wp2
  go_loopg [5, 6] n (fun g v5 v6 wr => ∃ k mo mn1 mc mb moff, k ≤ n ∧ g = n - k ∧ v6 = .int .i64 (k : Nat) ∧ v5 = .slice mo mn1 mc ∧ Oi W.heap.size wr mo mn1 mc mb moff ((l.take k).filter fun m => decide (m < x)) ∧ Below W.heap.size W wr)
  case atStart => exact ⟨0, _, _, _, 0, 0, Nat.zero_le _, rfl, rfl, rfl, oz_nil _ _ _ _, Below.refl _ _⟩
  case round =>
    obtain ⟨k, mo, mn1, mc, mb, moff, hk, rfl, rfl, rfl, hO, hB⟩ := hrel
    have hmn : mn1 ≤ k := by rw [← oi_len hO]; exact Nat.le_trans (List.length_filter_le _ _) (by rw [List.length_take]; omega)
    have HO : Hid (Oi W.heap.size wr mo mn1 mc mb moff ((l.take k).filter fun m => decide (m < x)) ∧ Below W.heap.size W wr) := ⟨hO, hB⟩
    by_cases hlt : k < n
    · have hlz : (k : Int) < (n : Int) := by omega
      obtain ⟨m, hm⟩ : ∃ m, l[k]? = some m := ⟨_, List.getElem?_eq_getElem (by rw [H.out.2]; exact hlt)⟩
      obtain ⟨rfl, h0⟩ := vi_at (H.out.1.below hB) hm
      have HM := hid hm
      have hb1 : b < wr.heap.size := World.block_lt_of_cell? _ _ h0
      by_cases hx : m < x
      · obtain ⟨b', off', hA⟩ := app_int hO hB.size (by omega) m
        have hF := hA.fine
        have HA := hid hA
        clear hO hB hm hA
        go_wp2
        go_roundg (n - (k + 1))
        case measure => omega
        case rel =>
          refine ⟨k + 1, _, _, _, b', off', hlt, rfl, by simp, rfl, ?_, ?_⟩
          · rw [filter_yes HM.out (by simpa using hx)]
            exact oi_app HA.out.own
          · exact (HO.out.2.alloc HO.out.2.size _).trans HA.out.below
      · clear hO hB hm
        go_wp2
        go_roundg (n - (k + 1))
        case measure => omega
        case rel =>
          refine ⟨k + 1, _, _, _, mb, moff, hlt, rfl, by simp, rfl, ?_, HO.out.2⟩
          rw [filter_no HM.out (by simpa using hx)]
          exact HO.out.1
    · obtain rfl : k = n := by omega
      have HT : Hid (l.take k = l) := by show l.take k = l; exact List.take_of_length_le (by rw [H.out.2]; exact Nat.le_refl _)
      obtain ⟨b', off', hA⟩ := app_int hO hB.size (by omega) x
      have hF := hA.fine
      have HA := hid hA
      clear hO hB hA
      go_wp2
      have HC : Hid (Oi W.heap.size (apW Try.prog #[49, 49] 49 (wr.alloc (.cells #[.int .i64 x] 3)) (.slice mo mn1 mc) (.slice (some ⟨wr.heap.size, 0, none⟩) 1 1)) (apA Try.prog #[49, 49] 49 (wr.alloc (.cells #[.int .i64 x] 3)) (.slice mo mn1 mc) (.slice (some ⟨wr.heap.size, 0, none⟩) 1 1)) (mn1 + 1) (apC Try.prog #[49, 49] 49 (wr.alloc (.cells #[.int .i64 x] 3)) (.slice mo mn1 mc) (.slice (some ⟨wr.heap.size, 0, none⟩) 1 1)) b' off' ((l.filter fun m => decide (m < x)) ++ [x]) ∧ Below W.heap.size W (apW Try.prog #[49, 49] 49 (wr.alloc (.cells #[.int .i64 x] 3)) (.slice mo mn1 mc) (.slice (some ⟨wr.heap.size, 0, none⟩) 1 1))) := by
        refine ⟨?_, (HO.out.2.alloc HO.out.2.size _).trans HA.out.below⟩
        have := oi_app HA.out.own
        rw [HT.out] at this
        exact this
      clear hF HA HO hmn
      go_loopg [5, 7] k (fun g v5 v7 wr => ∃ k' mo mn1 mc mb moff, k' ≤ k ∧ g = k - k' ∧ v7 = .int .i64 (k' : Nat) ∧ v5 = .slice mo mn1 mc ∧ Oi W.heap.size wr mo mn1 mc mb moff ((l.filter fun m => decide (m < x)) ++ [x] ++ ((l.take k').filter fun m => decide (x < m))) ∧ Below W.heap.size W wr)
      case atStart => exact ⟨0, _, _, _, b', off', Nat.zero_le _, rfl, rfl, rfl, by simpa using HC.out.1, HC.out.2⟩
      case round =>
        clear HC
        obtain ⟨k', mo, mn1, mc, mb, moff, hk', rfl, rfl, rfl, hO, hB⟩ := hrel
        have hmn : mn1 ≤ 2 * k + 1 := by
          rw [← oi_len hO, List.length_append, List.length_append]
          have h1 := List.length_filter_le (fun m => decide (m < x)) l
          have h2 := List.length_filter_le (fun m => decide (x < m)) (l.take k')
          rw [List.length_take] at h2
          have := H.out.2
          simp only [List.length_cons, List.length_nil]
          omega
        have HO : Hid (Oi W.heap.size wr mo mn1 mc mb moff ((l.filter fun m => decide (m < x)) ++ [x] ++ ((l.take k').filter fun m => decide (x < m))) ∧ Below W.heap.size W wr) := ⟨hO, hB⟩
        by_cases hlt : k' < k
        · have hlz : (k' : Int) < (k : Int) := by omega
          obtain ⟨m, hm⟩ : ∃ m, l[k']? = some m := ⟨_, List.getElem?_eq_getElem (by rw [H.out.2]; exact hlt)⟩
          obtain ⟨rfl, h0⟩ := vi_at (H.out.1.below hB) hm
          have HM := hid hm
          have hb1 : b < wr.heap.size := World.block_lt_of_cell? _ _ h0
          by_cases hx : x < m
          · obtain ⟨b', off', hA⟩ := app_int hO hB.size (by omega) m
            have hF := hA.fine
            have HA := hid hA
            clear hO hB hm hA
            go_wp2
            go_roundg (k - (k' + 1))
            case measure => omega
            case rel =>
              refine ⟨k' + 1, _, _, _, b', off', hlt, rfl, by simp, rfl, ?_, ?_⟩
              · rw [filter_yes HM.out (by simpa using hx), ← List.append_assoc]
                exact oi_app HA.out.own
              · exact (HO.out.2.alloc HO.out.2.size _).trans HA.out.below
          · clear hO hB hm
            go_wp2
            go_roundg (k - (k' + 1))
            case measure => omega
            case rel =>
              refine ⟨k' + 1, _, _, _, mb, moff, hlt, rfl, by simp, rfl, ?_, HO.out.2⟩
              rw [filter_no HM.out (by simpa using hx)]
              exact HO.out.1
        · obtain rfl : k' = k := by omega
          clear hO hB
          go_wp2
          go_ret
          refine ⟨⟨_, _, _, mb, moff, rfl, ?_⟩, HO.out.2⟩
          have := HO.out.1
          rw [HT.out] at this
          unfold putL
          rw [List.append_assoc] at this
          exact this
end Go.Proofs.Ytlakklpnajgjiaa
