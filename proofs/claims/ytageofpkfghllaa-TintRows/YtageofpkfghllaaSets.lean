/- Numbers that are written over one of a list's. -/
import Derived.Test.YtageofpkfghllaaLawKit
namespace Go.Proofs.Ytageofpkfghllaa
open Num Go.RowKit
set_option linter.unusedVariables false
set_option linter.unusedSimpArgs false

theorem ints_set (l : List Int) (i : Nat) (v : Int) : ints (l.set i v) = (ints l).set i (.int .i64 v) := by unfold ints; rw [List.map_set]
theorem oi_set {lo : Nat} {w : World} {ao : Option Addr} {n c b off : Nat} {l : List Int} (h : Oi lo w ao n c b off l) {i : Nat} (hi : i < n) (v : Int) : Oi lo (w.setCell ⟨b, off + i, none⟩ (.int .i64 v)) ao n c b off (l.set i v) := by
  have hl := vi_len h.v
  have hle := h.v.le
  obtain ⟨u0, hu0⟩ := Option.isSome_iff_exists.1 (h.room i (by omega)).1
  have hs : (w.setCell ⟨b, off + i, none⟩ (.int .i64 v)).cell? ⟨b, off + i, none⟩ = some (.int .i64 v) := World.cell?_setCell_same _ _ _ hu0
  have ho : ∀ j, j ≠ i → (w.setCell ⟨b, off + i, none⟩ (.int .i64 v)).cell? ⟨b, off + j, none⟩ = w.cell? ⟨b, off + j, none⟩ := fun j hj => World.cell?_setCell_other _ _ _ _ (by simp [hj])
  refine ⟨⟨?_, h.v.le, h.v.max, h.v.addr, ?_⟩, fun hc => ?_, ?_⟩
  · rw [ints_len, List.length_set, hl]
  · rw [ints_set]
    intro j u hu
    by_cases hj : j = i
    · subst hj
      rw [List.getElem?_set_self (by rw [ints_len]; omega)] at hu
      rw [hs]; exact hu
    · rw [List.getElem?_set_ne (by omega)] at hu
      rw [ho j hj]; exact h.v.lies j u hu
  · exact ⟨(h.new hc).1, Nat.lt_of_lt_of_le (h.new hc).2 ((Below.refl 0 w).setCell (p := ⟨b, off + i, none⟩) (Nat.zero_le _) _).size⟩
  · intro j hj
    rw [World.frozen?_setCell]
    refine ⟨?_, (h.room j hj).2⟩
    by_cases hji : j = i
    · subst hji; rw [hs]; rfl
    · rw [ho j hji]; exact (h.room j hj).1
/-- what the walk wants at a store -/
theorem oi_at {lo : Nat} {w : World} {ao : Option Addr} {n c b off : Nat} {l : List Int} (h : Oi lo w ao n c b off l) {i : Nat} (hi : i < n) : w.cell? ⟨b, off + i, none⟩ = some (.int .i64 (nth l i)) ∧ w.frozen? ⟨b, off + i, none⟩ = false :=
  ⟨vi_nth h.v hi, (h.room i (by have := h.v.le; omega)).2⟩
theorem vi_far {w : World} {ao : Option Addr} {n c b off : Nat} {l : List Int} (h : Vi w ao n c b off l) {k : Nat} (hk : k ≠ b) (o : Nat) (v : Value) : Vi (w.setCell ⟨k, o, none⟩ v) ao n c b off l :=
  ⟨h.len, h.le, h.max, h.addr, fun j u hu => (World.cell?_setCell_other _ _ _ _ (by simp [hk.symm])).trans (h.lies j u hu)⟩
theorem oi_far {lo : Nat} {w : World} {ao : Option Addr} {n c b off : Nat} {l : List Int} (h : Oi lo w ao n c b off l) {k : Nat} (hk : k ≠ b) (o : Nat) (v : Value) : Oi lo (w.setCell ⟨k, o, none⟩ v) ao n c b off l :=
  h.block ((Below.refl 0 w).setCell (p := ⟨k, o, none⟩) (Nat.zero_le _) _).size fun _ => Below.heap_setCell _ _ _ _ hk.symm
theorem s1_set {w : World} {p : Nat} {v0 v1 v2 v3 : Value} {w1 : World} (h : S1 w p v0 v1 v2 v3 w1) {k : Nat} (hk : k ≠ p) (hl : w.heap.size ≤ k) (o : Nat) (v : Value) : S1 w p v0 v1 v2 v3 (w1.setCell ⟨k, o, none⟩ v) := by
  obtain ⟨⟨c0, c1, c2, c3⟩, hB⟩ := h
  have e : ∀ x, (w1.setCell ⟨k, o, none⟩ v).cell? ⟨p, x, none⟩ = w1.cell? ⟨p, x, none⟩ := fun x => World.cell?_setCell_other _ _ _ _ (by simp [hk.symm])
  exact ⟨⟨by rw [e]; exact c0, by rw [e]; exact c1, by rw [e]; exact c2, by rw [e]; exact c3⟩, Below.setCell (p := ⟨k, o, none⟩) hB hl v⟩

/-- a list is copied into memory of one's own -/
theorem app_copy {w : World} {ao : Option Addr} {n c b off : Nat} {l : List Int} (h : Vi w ao n c b off l) (hn : n ≤ 1000) :
    ∃ b' off', App 1 w.heap.size #[22, 22] 22 (w.alloc (.cells #[] 3)) (some ⟨w.heap.size, 0, none⟩) 0 0 0 (ints []) (.slice ao n c) n (ints l) b' off' :=
  app_ints (l := []) (oz_nil 1 w.heap.size _ _) (by simp) (h.below ((Below.refl _ _).alloc (Nat.le_refl _) _)) (by omega)
theorem app_low {w : World} {ts : Array TypeId} {ty : TypeId} {ao : Option Addr} {n c b : Nat} {cs : List Value} {x : Value} {m : Nat} {news : List Value} {b' off' : Nat} {o : Obj}
    (h : App 1 w.heap.size ts ty (w.alloc o) ao n c b cs x m news b' off') : Below w.heap.size w (apW Try.prog ts ty (w.alloc o) (.slice ao n c) x) := ((Below.refl _ _).alloc (Nat.le_refl _) _).trans h.below
theorem oi_copy {W : World} {lo : Nat} {ao ao' : Option Addr} {m c' : Nat} {l : List Int} {b' off' : Nat} 
    (h : App 1 lo #[22, 22] 22 W ao 0 0 0 (ints []) (.slice ao' m c') m (ints l) b' off') : Oi lo (apW Try.prog #[22, 22] 22 W (.slice ao 0 0) (.slice ao' m c')) (apA Try.prog #[22, 22] 22 W (.slice ao 0 0) (.slice ao' m c')) m (apC Try.prog #[22, 22] 22 W (.slice ao 0 0) (.slice ao' m c')) b' off' l := by
  have := h.own
  rw [Nat.zero_add] at this
  exact this
theorem app_copy0 {w : World} {ao : Option Addr} {n c b off : Nat} {l : List Int} (h : Vi w ao n c b off l) (hn : n ≤ 1000) :
    ∃ b' off', App 1 w.heap.size #[22, 22] 22 w none 0 0 0 (ints []) (.slice ao n c) n (ints l) b' off' :=
  app_ints (l := []) (oz_nil 1 w.heap.size _ _) (Nat.le_refl _) h (by omega)
/-- the first fifteen -/
theorem cutTo (c b off : Nat) (hc : 20 ≤ c) (w : World) : (Instr.slice 22 (.slice (some ⟨b, off, none⟩) 20 c) none (some (.int .i64 15)) none).run Try.prog w = .ok (.slice (some ⟨b, off, none⟩) 15 c) w := by
  have h1 : ¬ (c = 0) := by omega
  have z3 := Try.sizeOf3
  have u22 := Try.underlying22
  have e1 : Try.prog.elem 22 = 3 := by simp [Program.elem, u22]
  rw [run_slice_h (w := w) (t := 22) (ht := by rw [e1]; exact u22) (kh := .i64) (h0 := by omega) (h2 := by omega), e1]
  simp [go_sem, sliced, h1, z3, Addr.add]
theorem cutTo' (c b off : Nat) (hc : 20 ≤ c) (w : World) : (Instr.sliceAt 22 (.slice (some ⟨b, off, none⟩) 20 c) none (some (.int .i64 15)) none).run Try.prog w = .ok (.slice (some ⟨b, off, none⟩) 15 c) w := by
  have u22 := Try.underlying22
  have e1 : Try.prog.elem 22 = 3 := by simp [Program.elem, u22]
  rw [run_sliceAt_slice (h := by rw [e1]; exact u22), cutTo c b off hc w]
/-- twenty noughts -/
def zeroL : List Int := List.replicate 20 0
def zeroC : Array Value := (ints zeroL).toArray
theorem run_zero (w : World) : (Instr.makeSlice 22 (.int .i64 20) (.int .i64 20)).run Try.prog w = .ok (.slice (some ⟨w.heap.size, 0, none⟩) 20 20) (w.alloc (.cells zeroC 3)) := run_zeros 20 (by omega) w
theorem oi_zero {lo : Nat} {w : World} (hB : lo ≤ w.heap.size) : Oi lo (w.alloc (.cells zeroC 3)) (some ⟨w.heap.size, 0, none⟩) 20 20 w.heap.size 0 zeroL := oi_news hB zeroL (by decide) 3
def whiteL : List Int := [0, 0, 0, 0, 256, 0, 0, 0, 0, 256, 0, 0, 0, 0, 256, 0, 0, 0, 0, 256]
theorem white_is : (((zeroL.set 4 256).set 9 256).set 14 256).set 19 256 = whiteL := by decide
theorem zero_right : rightM zeroL = true := by decide
theorem white_right : rightM whiteL = true := by decide
end Go.Proofs.Ytageofpkfghllaa
