/- Lists of rectangles in memory: four cells each. -/
import Derived.Test.YtlakklpnajgjiaaMem
import Derived.Test.YtlakklpnajgjiaaSpec
namespace Go.Proofs.Ytlakklpnajgjiaa
open Num Go.RowKit
set_option linter.unusedVariables false

theorem ret_int {k : IntKind} {a b : Int} (h : a = b) : Ending.returned (.int k a) = .returned (.int k b) := by rw [h]
theorem ret_bool {a b : Bool} (h : a = b) : Ending.returned (.bool a) = .returned (.bool b) := by rw [h]

def cells4 (r : R) : List Value := [.int .i64 r.x0, .int .i64 r.y0, .int .i64 r.x1, .int .i64 r.y1]
def flat (l : List R) : List Value := l.flatMap cells4
def ints (l : List Int) : List Value := l.map (Value.int .i64)

theorem flat_cons (r : R) (l : List R) : flat (r :: l) = .int .i64 r.x0 :: .int .i64 r.y0 :: .int .i64 r.x1 :: .int .i64 r.y1 :: flat l := rfl
theorem flat_nil : flat [] = [] := rfl
theorem flat_len : ∀ l : List R, (flat l).length = l.length * 4
  | [] => rfl
  | r :: l => by rw [flat_cons]; simp only [List.length_cons]; rw [flat_len l]; omega
theorem flat_append (a b : List R) : flat (a ++ b) = flat a ++ flat b := by unfold flat; rw [List.flatMap_append]
theorem flat_drop : ∀ (l : List R) (k : Nat), flat (l.drop k) = (flat l).drop (k * 4)
  | l, 0 => by simp
  | [], k + 1 => by simp [flat_nil]
  | r :: l, k + 1 => by
    rw [List.drop_succ_cons, flat_cons, show (k + 1) * 4 = k * 4 + 1 + 1 + 1 + 1 by omega, List.drop_succ_cons, List.drop_succ_cons, List.drop_succ_cons, List.drop_succ_cons]
    exact flat_drop l k
theorem flat_take : ∀ (l : List R) (k : Nat), flat (l.take k) = (flat l).take (k * 4)
  | l, 0 => by simp [flat_nil]
  | [], k + 1 => by simp [flat_nil]
  | r :: l, k + 1 => by
    rw [List.take_succ_cons, flat_cons, flat_cons, show (k + 1) * 4 = k * 4 + 1 + 1 + 1 + 1 by omega, List.take_succ_cons, List.take_succ_cons, List.take_succ_cons, List.take_succ_cons, flat_take l k]
theorem flat_at {l : List R} {i : Nat} {r : R} (h : l[i]? = some r) : (flat l)[i * 4]? = some (.int .i64 r.x0) ∧ (flat l)[i * 4 + 1]? = some (.int .i64 r.y0) ∧ (flat l)[i * 4 + 2]? = some (.int .i64 r.x1) ∧ (flat l)[i * 4 + 3]? = some (.int .i64 r.y1) := by
  have hd : flat (l.drop i) = .int .i64 r.x0 :: .int .i64 r.y0 :: .int .i64 r.x1 :: .int .i64 r.y1 :: flat (l.drop (i + 1)) := by
    obtain ⟨hi, rfl⟩ := List.getElem?_eq_some_iff.1 h
    rw [List.drop_eq_getElem_cons hi]; rfl
  rw [flat_drop] at hd
  have e : ∀ j, (flat l)[i * 4 + j]? = ((flat l).drop (i * 4))[j]? := fun j => by rw [List.getElem?_drop]
  have e0 := e 0
  rw [Nat.add_zero] at e0
  rw [e0, e 1, e 2, e 3, hd]
  exact ⟨rfl, rfl, rfl, rfl⟩
theorem ints_at {l : List Int} {i : Nat} {n : Int} (h : l[i]? = some n) : (ints l)[i]? = some (.int .i64 n) := by unfold ints; rw [List.getElem?_map, h]; rfl
theorem ints_len (l : List Int) : (ints l).length = l.length * 1 := by unfold ints; simp
theorem ints_append (a b : List Int) : ints (a ++ b) = ints a ++ ints b := by unfold ints; rw [List.map_append]

/-- a slice of rectangles -/
abbrev Vw (w : World) (ao : Option Addr) (n c b off : Nat) (l : List R) : Prop := Vz 4 w ao n c b off (flat l)
abbrev Ow (B : Nat) (w : World) (ao : Option Addr) (n c b off : Nat) (l : List R) : Prop := Oz 4 B w ao n c b off (flat l)
abbrev Vi (w : World) (ao : Option Addr) (n c b off : Nat) (l : List Int) : Prop := Vz 1 w ao n c b off (ints l)
abbrev Oi (B : Nat) (w : World) (ao : Option Addr) (n c b off : Nat) (l : List Int) : Prop := Oz 1 B w ao n c b off (ints l)

theorem vw_len {w : World} {ao : Option Addr} {n c b off : Nat} {l : List R} (h : Vw w ao n c b off l) : l.length = n := by have := h.len; rw [flat_len] at this; omega
theorem vi_len {w : World} {ao : Option Addr} {n c b off : Nat} {l : List Int} (h : Vi w ao n c b off l) : l.length = n := by have := h.len; rw [ints_len] at this; omega
theorem vw_small {sz : Nat} {w : World} {ao : Option Addr} {n c b off : Nat} {l : List Value} (h : Vz sz w ao n c b off l) : n ≤ 9223372036854775807 := by have h1 := h.le; have h2 := h.max; simp only [maxLen] at h2; omega
theorem vw_at {w : World} {ao : Option Addr} {n c b off : Nat} {l : List R} (h : Vw w ao n c b off l) {i : Nat} {r : R} (hi : l[i]? = some r) :
    ao = some ⟨b, off, none⟩ ∧ w.cell? ⟨b, off + i * 4, none⟩ = some (.int .i64 r.x0) ∧ w.cell? ⟨b, off + i * 4 + 1, none⟩ = some (.int .i64 r.y0) ∧ w.cell? ⟨b, off + i * 4 + 2, none⟩ = some (.int .i64 r.x1) ∧ w.cell? ⟨b, off + i * 4 + 3, none⟩ = some (.int .i64 r.y1) := by
  have hl := vw_len h
  have hlt : i < l.length := (List.getElem?_eq_some_iff.1 hi).1
  obtain ⟨e0, e1, e2, e3⟩ := flat_at hi
  exact ⟨h.addr (by have := h.le; omega), h.lies _ _ e0, h.lies _ _ e1, h.lies _ _ e2, h.lies _ _ e3⟩
theorem vw_at0 {w : World} {ao : Option Addr} {n c b off : Nat} {l : List R} {r : R} (h : Vw w ao n c b off (r :: l)) :
    ao = some ⟨b, off, none⟩ ∧ w.cell? ⟨b, off, none⟩ = some (.int .i64 r.x0) ∧ w.cell? ⟨b, off + 1, none⟩ = some (.int .i64 r.y0) ∧ w.cell? ⟨b, off + 2, none⟩ = some (.int .i64 r.x1) ∧ w.cell? ⟨b, off + 3, none⟩ = some (.int .i64 r.y1) := by
  have := vw_at h (i := 0) (r := r) rfl
  simpa using this
theorem vi_at {w : World} {ao : Option Addr} {n c b off : Nat} {l : List Int} (h : Vi w ao n c b off l) {i : Nat} {m : Int} (hi : l[i]? = some m) : ao = some ⟨b, off, none⟩ ∧ w.cell? ⟨b, off + i, none⟩ = some (.int .i64 m) := by
  have hl := vi_len h
  have hlt : i < l.length := (List.getElem?_eq_some_iff.1 hi).1
  exact ⟨h.addr (by have := h.le; omega), h.lies _ _ (ints_at hi)⟩
theorem vw_nil (w : World) (ao : Option Addr) : Vw w ao 0 0 0 0 [] := (oz_nil 4 0 w ao).v

/-- a part of a slice -/
theorem vw_drop {w : World} {ao : Option Addr} {n c b off : Nat} {l : List R} (h : Vw w ao n c b off l) {k : Nat} (hk : k ≤ n) : Vw w (if c = k then ao else ao.map (fun a => a.add (k * 4))) (n - k) (c - k) b (off + k * 4) (l.drop k) := by
  have hl := vw_len h
  have hle := h.le
  have hm := h.max
  refine ⟨by rw [flat_len, List.length_drop, hl], by omega, by omega, fun hc => ?_, ?_⟩
  · rw [if_neg (by omega), h.addr (by omega)]
    simp only [Option.map_some, Addr.add]
    split
    · rename_i e
      rw [e, Nat.add_zero]
    · rfl
  · rw [flat_drop]
    exact h.lies.drop _
theorem vw_drop0 {w : World} {ao ao' : Option Addr} {n c b off : Nat} {l : List R} (h : Vw w ao n c b off l) {k : Nat} (hk : k ≤ n) (hc : c = k) : Vw w ao' (n - k) 0 0 0 (l.drop k) := by
  have hl := vw_len h
  have hle := h.le
  rw [List.drop_eq_nil_of_le (by omega), show n - k = 0 by omega]
  exact vw_nil _ _
theorem vw_dropS {w : World} {n c b off : Nat} {l : List R} (h : Vw w (some ⟨b, off, none⟩) n c b off l) {k : Nat} (hk : k ≤ n) : Vw w (some ⟨b, off + k * 4, none⟩) (n - k) (c - k) b (off + k * 4) (l.drop k) := by
  have hl := vw_len h
  have hle := h.le
  have hm := h.max
  refine ⟨by rw [flat_len, List.length_drop, hl], by omega, by omega, fun hc => rfl, ?_⟩
  rw [flat_drop]
  exact h.lies.drop _
/-- a slice is answered -/
def RetV (w : World) (e : Ending) (l : List R) : Prop := ∃ ao n c b off, e = .returned (.slice ao n c) ∧ Vw w ao n c b off l
def RetO (B : Nat) (w : World) (e : Ending) (l : List R) : Prop := ∃ ao n c b off, e = .returned (.slice ao n c) ∧ Ow B w ao n c b off l
theorem vw_take {w : World} {ao : Option Addr} {n c b off : Nat} {l : List R} (h : Vw w ao n c b off l) {k : Nat} (hk : k ≤ n) : Vw w ao k c b off (l.take k) := by
  have hl := vw_len h
  refine ⟨by rw [flat_len, List.length_take]; omega, by have := h.le; omega, h.max, h.addr, ?_⟩
  rw [flat_take]
  exact h.lies.take _

end Go.Proofs.Ytlakklpnajgjiaa
