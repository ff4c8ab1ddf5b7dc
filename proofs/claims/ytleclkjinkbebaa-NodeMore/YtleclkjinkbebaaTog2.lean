/- What asks of the last number something besides: the list; pixels; tiles. -/
import Derived.Test.YtleclkjinkbebaaTog
namespace Go.Proofs.Ytleclkjinkbebaa
open Num Go.RowKit
set_option linter.unusedVariables false
set_option linter.unusedSimpArgs false

theorem snoc_fn {fs : List Fn1} (h : fs ≠ []) : ∃ fs0 f, fs = fs0 ++ [f] := ⟨fs.dropLast, fs.getLast h, (List.dropLast_concat_getLast h).symm⟩
/-- the last one is laid anew -/
theorem tog_step {n B : Nat} {w : World} {ao : Option Addr} {k c b off : Nat} {vs : List Value} {fs0 : List Fn1} {f g : Fn1} {q2 : Nat} {caps2 : Array Value} (hO : Oz 1 B w ao (k + 1) c b off vs) (hF : Fl n b w vs (fs0 ++ [f])) (hg : Fv n b w q2 caps2 g) :
    ∃ v q1 caps1, v = fvV q1 caps1 ∧ ao = some ⟨b, off, none⟩ ∧ (w.alloc (.cells #[fvV q2 caps2] 43)).cell? ⟨b, off + k, none⟩ = some v ∧
      ((w.alloc (.cells #[fvV q2 caps2] 43)).alloc (.cells #[v] 43)).cell? ⟨b, off + k, none⟩ = some v ∧ ((w.alloc (.cells #[fvV q2 caps2] 43)).alloc (.cells #[v] 43)).frozen? ⟨b, off + k, none⟩ = false ∧
      (∃ vs', Oz 1 B (((w.alloc (.cells #[fvV q2 caps2] 43)).alloc (.cells #[v] 43)).setCell ⟨b, off + k, none⟩ (fvV 31 #[.pointer (some ⟨w.heap.size + 1, 0, none⟩), .pointer (some ⟨w.heap.size, 0, none⟩)])) ao (k + 1) c b off vs' ∧
        Fl n b (((w.alloc (.cells #[fvV q2 caps2] 43)).alloc (.cells #[v] 43)).setCell ⟨b, off + k, none⟩ (fvV 31 #[.pointer (some ⟨w.heap.size + 1, 0, none⟩), .pointer (some ⟨w.heap.size, 0, none⟩)])) vs' (fs0 ++ [fun l => f l && g l])) ∧
      But b w (((w.alloc (.cells #[fvV q2 caps2] 43)).alloc (.cells #[v] 43)).setCell ⟨b, off + k, none⟩ (fvV 31 #[.pointer (some ⟨w.heap.size + 1, 0, none⟩), .pointer (some ⟨w.heap.size, 0, none⟩)])) := by
  have hvl : vs.length = k + 1 := by have := hO.v.len; omega
  have hfl : fs0.length = k := by have := hF.len; rw [List.length_append, List.length_singleton] at this; omega
  obtain ⟨v, hv⟩ : ∃ v, vs[k]? = some v := ⟨_, List.getElem?_eq_getElem (by omega)⟩
  obtain ⟨q1, caps1, e1, h1⟩ := hF.each k v f hv (by rw [List.getElem?_append_right (by omega), hfl]; simp)
  have hc : 0 < c := by have := hO.v.le; omega
  have hb := (hO.new hc).2
  have e0 := hO.v.lies k v hv
  have f0 := oz_fz hO (i := k) (by omega)
  refine ⟨v, q1, caps1, e1, hO.v.addr hc, ?_⟩
  have b1 : Below w.heap.size w (w.alloc (.cells #[fvV q2 caps2] 43)) := (Below.refl _ _).alloc (Nat.le_refl _) _
  have z1 : (w.alloc (.cells #[fvV q2 caps2] 43)).heap.size = w.heap.size + 1 := by simp
  have n1 := cell_new w (fvV q2 caps2) 43
  generalize (w.alloc (.cells #[fvV q2 caps2] 43)) = w1 at *
  have b2 : Below w1.heap.size w1 (w1.alloc (.cells #[v] 43)) := (Below.refl _ _).alloc (Nat.le_refl _) _
  have z2 : (w1.alloc (.cells #[v] 43)).heap.size = w.heap.size + 1 + 1 := by simp [z1]
  have n2 := cell_new w1 v 43
  rw [z1] at n2
  have n1' := cell_below b2 n1
  generalize (w1.alloc (.cells #[v] 43)) = w2 at *
  have b12 := via b1 b2
  have hO2 := hO.below b12
  have hset := oz_set hO2 (p := k) (by omega) (fvV 31 #[.pointer (some ⟨w.heap.size + 1, 0, none⟩), .pointer (some ⟨w.heap.size, 0, none⟩)])
  have hbw : But b w2 (w2.setCell ⟨b, off + k, none⟩ (fvV 31 #[.pointer (some ⟨w.heap.size + 1, 0, none⟩), .pointer (some ⟨w.heap.size, 0, none⟩)])) := but_cells b (off + k) [fvV 31 #[.pointer (some ⟨w.heap.size + 1, 0, none⟩), .pointer (some ⟨w.heap.size, 0, none⟩)]] _
  have hall := (But.of (b := b) b12).trans hbw
  refine ⟨cell_below b1 e0, cell_below b12 e0, (b12.frozen (p := ⟨b, off + k, none⟩) hb).trans f0, ⟨_, hset, ?_⟩, hall⟩
  generalize hX : fvV 31 #[.pointer (some ⟨w.heap.size + 1, 0, none⟩), .pointer (some ⟨w.heap.size, 0, none⟩)] = X at *
  have es : vs.set k X = vs.take k ++ [X] := by
    apply List.ext_getElem?
    intro j
    by_cases hj : j < k
    · rw [List.getElem?_set_ne (by omega), List.getElem?_append_left (by rw [List.length_take]; omega), List.getElem?_take, if_pos hj]
    · by_cases hjk : j = k
      · subst hjk
        rw [List.getElem?_set_self (by omega), List.getElem?_append_right (by rw [List.length_take]; omega)]
        simp [hvl]
      · rw [List.getElem?_eq_none (by rw [List.length_set]; omega), List.getElem?_eq_none (by rw [List.length_append, List.length_take, List.length_singleton]; omega)]
  rw [es]
  have ht := fl_take hF k
  have et : (fs0 ++ [f]).take k = fs0 := by rw [List.take_append_of_le_length (by omega), List.take_of_length_le (by omega)]
  rw [et] at ht
  refine fl_app (ht.but hall) ?_
  subst hX
  refine fl_one ⟨ent_together1, fun W' hW ao' c' b' off' l hl => ?_⟩
  subst e1
  have k1 := cell_but (hbw.trans hW) n2 (by omega)
  have k2 := cell_but (hbw.trans hW) n1' (by omega)
  exact together1_any n b (w.heap.size + 1) w.heap.size q1 q2 caps1 caps2 f g ao' c' b' off' l W' hl k1 k2 (h1.but (hall.trans hW)) (hg.but (hall.trans hW))

set_option maxRecDepth 100000 in
set_option maxHeartbeats 1000000 in
theorem together_any (n B : Nat) (ao : Option Addr) (m c b off : Nat) (vs : List Value) (fs : List Fn1) (g : Fn1) (q2 : Nat) (caps2 : Array Value) (w : World) (hO : Oz 1 B w ao m c b off vs) (hF : Fl n b w vs fs) (hne : fs ≠ []) (hg : Fv n b w q2 caps2 g) :
    Calls Try.prog 20 #[.slice ao m c, .func (.func q2) #[] caps2] w fun e w' => e = .returned (.slice ao m c) ∧ (∃ vs', Oz 1 B w' ao m c b off vs' ∧ Fl n b w' vs' (togB fs g)) ∧ But b w w' := by
  have hm := fl_count hO hF
  obtain ⟨fs0, f, rfl⟩ := snoc_fn hne
  rw [togB_snoc]
  obtain ⟨k, rfl⟩ : ∃ k, m = k + 1 := ⟨fs0.length, by rw [hm]; simp⟩
  have hmx := vz_small hO.v
  obtain ⟨v, q1, caps1, hv, rfl, e0, e1, f0, hR, hB⟩ := tog_step hO hF hg
  have HR := hid (And.intro hR hB)
  have hmf : ∀ (fn : Fn) (first cap : Array Value) (w : World), (Instr.makeFunc fn first cap).run Try.prog w = .ok (.func fn first cap) w := fun _ _ _ _ => rfl
  have hk : ((k + 1 : Nat) : Int) - 1 = (k : Int) := by omega
  have hkz : (k : Int) < ((k + 1 : Nat) : Int) := by omega
  subst hv
  unfold fvV at e0 e1 f0
  clear hR hB hO hF hne hg hm
  go_enter Try.func20, Try.ntmps20
  go_wp2
  go_ret
  exact ⟨rfl, HR.out.1, HR.out.2⟩
end Go.Proofs.Ytleclkjinkbebaa
