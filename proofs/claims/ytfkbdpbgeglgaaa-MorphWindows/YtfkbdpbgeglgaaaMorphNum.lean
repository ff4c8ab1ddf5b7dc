/- The greatest and the least of numbers, of pixels, over windows. -/
import Derived.Test.YtfkbdpbgeglgaaaBlurNum
namespace Go.Proofs.Ytfkbdpbgeglgaaa.Num
set_option linter.unusedVariables false

/-- the greater, or by t the lesser -/
def pk (t : Bool) (a b : Int) : Int := if t = true then (if a ≤ b then a else b) else (if a ≤ b then b else a)
/-- is m beyond x, or x itself? -/
def leT (t : Bool) (x m : Int) : Prop := if t = true then m ≤ x else x ≤ m
theorem leT_refl (t : Bool) (x : Int) : leT t x x := by unfold leT; split <;> omega
theorem leT_trans {t : Bool} {x y z : Int} (h : leT t x y) (k : leT t y z) : leT t x z := by unfold leT at *; split <;> simp_all <;> omega
theorem leT_anti {t : Bool} {x y : Int} (h : leT t x y) (k : leT t y x) : x = y := by unfold leT at *; split at h <;> simp_all <;> omega
theorem pk_left (t : Bool) (a b : Int) : leT t a (pk t a b) := by unfold leT pk; cases t <;> simp <;> split <;> omega
theorem pk_right (t : Bool) (a b : Int) : leT t b (pk t a b) := by unfold leT pk; cases t <;> simp <;> split <;> omega
theorem pk_or (t : Bool) (a b : Int) : pk t a b = a ∨ pk t a b = b := by
  unfold pk
  by_cases h : a ≤ b
  · cases t <;> simp [h]
  · cases t <;> simp [h]

/-- m is the greatest (by t the least) of the values from a to b -/
def Ext (t : Bool) (u : Int → Int) (a b m : Int) : Prop := (∃ i, a ≤ i ∧ i < b ∧ u i = m) ∧ ∀ i, a ≤ i → i < b → leT t (u i) m
theorem ext_unique {t : Bool} {u : Int → Int} {a b m m' : Int} (h : Ext t u a b m) (k : Ext t u a b m') : m = m' := by
  obtain ⟨⟨i, h1, h2, rfl⟩, h4⟩ := h
  obtain ⟨⟨j, k1, k2, rfl⟩, k4⟩ := k
  exact leT_anti (k4 i h1 h2) (h4 j k1 k2)
theorem ext_congr {t : Bool} {u u' : Int → Int} {a b m : Int} (h : Ext t u a b m) (e : ∀ i, a ≤ i → i < b → u i = u' i) : Ext t u' a b m := by
  obtain ⟨⟨i, h1, h2, rfl⟩, h4⟩ := h
  refine ⟨⟨i, h1, h2, (e i h1 h2).symm⟩, fun j j1 j2 => ?_⟩
  rw [← e j j1 j2]
  exact h4 j j1 j2
/-- .. told -/
def extI (t : Bool) (u : Int → Int) (a : Int) : Nat → Int
  | 0 => u a
  | n + 1 => pk t (extI t u a n) (u (a + ((n + 1 : Nat) : Int)))
theorem ext_of (t : Bool) (u : Int → Int) (a : Int) : ∀ n : Nat, Ext t u a (a + (n : Int) + 1) (extI t u a n)
  | 0 => ⟨⟨a, by omega, by omega, rfl⟩, fun i h1 h2 => by rw [show i = a by omega]; exact leT_refl _ _⟩
  | n + 1 => by
    obtain ⟨⟨i, h1, h2, h3⟩, h4⟩ := ext_of t u a n
    unfold extI
    refine ⟨?_, fun j j1 j2 => ?_⟩
    · rcases pk_or t (extI t u a n) (u (a + ((n + 1 : Nat) : Int))) with h | h
      · exact ⟨i, h1, by omega, by rw [h]; exact h3⟩
      · exact ⟨_, by omega, by omega, h.symm⟩
    · by_cases hj : j < a + (n : Int) + 1
      · exact leT_trans (h4 j j1 hj) (pk_left _ _ _)
      · rw [show j = a + ((n + 1 : Nat) : Int) by omega]
        exact pk_right _ _ _
/-- over a box -/
def Ext2 (t : Bool) (U : Int → Int → Int) (a b c d m : Int) : Prop := (∃ x y, a ≤ x ∧ x < b ∧ c ≤ y ∧ y < d ∧ U x y = m) ∧ ∀ x y, a ≤ x → x < b → c ≤ y → y < d → leT t (U x y) m
theorem ext2_unique {t : Bool} {U : Int → Int → Int} {a b c d m m' : Int} (h : Ext2 t U a b c d m) (k : Ext2 t U a b c d m') : m = m' := by
  obtain ⟨⟨i, i', h1, h2, h3, h4, rfl⟩, h5⟩ := h
  obtain ⟨⟨j, j', k1, k2, k3, k4, rfl⟩, k5⟩ := k
  exact leT_anti (k5 _ _ h1 h2 h3 h4) (h5 _ _ k1 k2 k3 k4)
theorem ext_ext {t : Bool} {U : Int → Int → Int} {R : Int → Int} {a b c d m : Int} (h : ∀ y, c ≤ y → y < d → Ext t (fun x => U x y) a b (R y)) (k : Ext t R c d m) : Ext2 t U a b c d m := by
  obtain ⟨⟨y, k1, k2, rfl⟩, k4⟩ := k
  obtain ⟨⟨x, h1, h2, h3⟩, h4⟩ := h y k1 k2
  refine ⟨⟨x, y, h1, h2, k1, k2, h3⟩, fun x' y' a1 a2 a3 a4 => ?_⟩
  exact leT_trans ((h y' a3 a4).2 x' a1 a2) (k4 y' a3 a4)
/-- around a point -/
def mor1 (t : Bool) (U : Int → Int → Int) (rx ry : Nat) (x y : Int) : Int := extI t (fun v => extI t (fun u => U u v) (x - (rx : Int)) (2 * rx)) (y - (ry : Int)) (2 * ry)
theorem mor_of (t : Bool) (U : Int → Int → Int) (rx ry : Nat) (x y : Int) : Ext2 t U (x - (rx : Int)) (x + (rx : Int) + 1) (y - (ry : Int)) (y + (ry : Int) + 1) (mor1 t U rx ry x y) := by
  have h1 := ext_of t (fun v => extI t (fun u => U u v) (x - (rx : Int)) (2 * rx)) (y - (ry : Int)) (2 * ry)
  rw [show y - (ry : Int) + ((2 * ry : Nat) : Int) + 1 = y + (ry : Int) + 1 by omega] at h1
  refine ext_ext (fun v _ _ => ?_) h1
  have h2 := ext_of t (fun u => U u v) (x - (rx : Int)) (2 * rx)
  rwa [show x - (rx : Int) + ((2 * rx : Nat) : Int) + 1 = x + (rx : Int) + 1 by omega] at h2
theorem mor_eq {t : Bool} {U : Int → Int → Int} {rx ry : Nat} {x y m : Int} (h : Ext2 t U (x - (rx : Int)) (x + (rx : Int) + 1) (y - (ry : Int)) (y + (ry : Int) + 1) m) : mor1 t U rx ry x y = m := ext2_unique (mor_of t U rx ry x y) h
/-- pixels around a point -/
def morX (t : Bool) (g : Int → Int → X) (rx ry : Nat) (x y : Int) : X :=
  ⟨mor1 t (fun u v => (g u v).c0) rx ry x y, mor1 t (fun u v => (g u v).c1) rx ry x y, mor1 t (fun u v => (g u v).c2) rx ry x y, mor1 t (fun u v => (g u v).c3) rx ry x y⟩
/-- four at once -/
structure Ext4 (t : Bool) (h : Int → X) (a b : Int) (p : X) : Prop where
  c0 : Ext t (fun i => (h i).c0) a b p.c0
  c1 : Ext t (fun i => (h i).c1) a b p.c1
  c2 : Ext t (fun i => (h i).c2) a b p.c2
  c3 : Ext t (fun i => (h i).c3) a b p.c3
theorem ext4_unique {t : Bool} {h : Int → X} {a b : Int} {p q : X} (k : Ext4 t h a b p) (l : Ext4 t h a b q) : p = q :=
  X_ext (ext_unique k.c0 l.c0) (ext_unique k.c1 l.c1) (ext_unique k.c2 l.c2) (ext_unique k.c3 l.c3)
def extX (t : Bool) (h : Int → X) (a b : Int) : X :=
  ⟨extI t (fun i => (h i).c0) a (b - a - 1).toNat, extI t (fun i => (h i).c1) a (b - a - 1).toNat, extI t (fun i => (h i).c2) a (b - a - 1).toNat, extI t (fun i => (h i).c3) a (b - a - 1).toNat⟩
theorem extX_of (t : Bool) (h : Int → X) {a b : Int} (hab : a < b) : Ext4 t h a b (extX t h a b) := by
  have e : a + ((b - a - 1).toNat : Int) + 1 = b := by omega
  have h0 := ext_of t (fun i => (h i).c0) a (b - a - 1).toNat
  have h1 := ext_of t (fun i => (h i).c1) a (b - a - 1).toNat
  have h2 := ext_of t (fun i => (h i).c2) a (b - a - 1).toNat
  have h3 := ext_of t (fun i => (h i).c3) a (b - a - 1).toNat
  rw [e] at h0 h1 h2 h3
  exact ⟨h0, h1, h2, h3⟩
theorem extX_eq {t : Bool} {h : Int → X} {a b : Int} {p : X} (hab : a < b) (k : Ext4 t h a b p) : extX t h a b = p := ext4_unique (extX_of t h hab) k
theorem ext_byte {t : Bool} {u : Int → Int} {a b m : Int} (h : Ext t u a b m) (k : ∀ i, 0 ≤ u i ∧ u i ≤ 255) : 0 ≤ m ∧ m ≤ 255 := by
  obtain ⟨⟨i, -, -, rfl⟩, -⟩ := h
  exact k i
theorem ext4_byte {t : Bool} {h : Int → X} {a b : Int} {p : X} (k : Ext4 t h a b p) (hb : ∀ i, byteX (h i)) : byteX p :=
  ⟨ext_byte k.c0 (fun i => (hb i).1), ext_byte k.c1 (fun i => (hb i).2.1), ext_byte k.c2 (fun i => (hb i).2.2.1), ext_byte k.c3 (fun i => (hb i).2.2.2)⟩

/-- turned about by t -/
def tn (t : Bool) (v : Int) : Int := if t = true then 255 - v else v
theorem tn_tn (t : Bool) (v : Int) : tn t (tn t v) = v := by unfold tn; cases t <;> simp <;> omega
theorem ext_turn {t : Bool} {u : Int → Int} {a b m : Int} (h : Ext false (fun i => tn t (u i)) a b m) : Ext t u a b (tn t m) := by
  obtain ⟨⟨i, h1, h2, h3⟩, h4⟩ := h
  refine ⟨⟨i, h1, h2, by rw [← h3, tn_tn]⟩, fun j j1 j2 => ?_⟩
  have h5 := h4 j j1 j2
  clear h4 h3
  unfold leT tn at *
  cases t
  · simpa using h5
  · simp at h5 ⊢
    omega

/-- what a queue holds of a window: who may still be the greatest -/
structure Win (u : Int → Int) (lo hi : Int) (L : List (Int × Int)) : Prop where
  mem : ∀ x, x ∈ L → lo ≤ x.1 ∧ x.1 < hi ∧ x.2 = u x.1
  ord : L.Pairwise (fun x y => x.1 < y.1 ∧ y.2 ≤ x.2)
  all : ∀ i, lo ≤ i → i < hi → ∃ x, x ∈ L ∧ i ≤ x.1 ∧ u i ≤ x.2
theorem win_nil (u : Int → Int) {lo hi : Int} (h : hi ≤ lo) : Win u lo hi [] := ⟨fun x hx => by simp at hx, List.Pairwise.nil, fun i h1 h2 => by omega⟩
theorem win_len {u : Int → Int} : ∀ {L : List (Int × Int)} {lo hi : Int}, Win u lo hi L → (L.length : Int) ≤ mx (hi - lo) 0
  | [], _, _, _ => by unfold mx; simp; omega
  | x :: L, lo, hi, h => by
    have hm := h.mem x (by simp)
    have ho := List.pairwise_cons.1 h.ord
    have h2 : Win u (x.1 + 1) hi L := by
      refine ⟨fun y hy => ?_, ho.2, fun i h1 h2 => ?_⟩
      · have := h.mem y (by simp [hy])
        have := (ho.1 y hy).1
        exact ⟨by omega, by omega, (h.mem y (by simp [hy])).2.2⟩
      · obtain ⟨y, h3, h4, h5⟩ := h.all i (by omega) h2
        rcases List.mem_cons.1 h3 with rfl | h3
        · omega
        · exact ⟨y, h3, h4, h5⟩
    have := win_len h2
    unfold mx at *
    simp only [List.length_cons]
    omega
theorem win_enter {u : Int → Int} {lo hi : Int} {A B : List (Int × Int)} (h : Win u lo hi (A ++ B)) (hl : lo ≤ hi) (hB : ∀ x, x ∈ B → x.2 ≤ u hi) (hA : A = [] ∨ ∃ A' x, A = A' ++ [x] ∧ u hi < x.2) : Win u lo (hi + 1) (A ++ [(hi, u hi)]) := by
  have hAo := (List.pairwise_append.1 h.ord).1
  have hbig : ∀ x, x ∈ A → u hi ≤ x.2 := by
    intro x hx
    rcases hA with rfl | ⟨A', z, rfl, hz⟩
    · simp at hx
    · rcases List.mem_append.1 hx with hx | hx
      · have := ((List.pairwise_append.1 hAo).2.2 x hx z (by simp)).2
        omega
      · simp at hx
        subst hx
        omega
  refine ⟨fun x hx => ?_, ?_, fun i h1 h2 => ?_⟩
  · rcases List.mem_append.1 hx with hx | hx
    · obtain ⟨h1, h2, h3⟩ := h.mem x (by simp [hx])
      exact ⟨h1, by omega, h3⟩
    · simp at hx
      subst hx
      exact ⟨hl, by simp; omega, rfl⟩
  · rw [List.pairwise_append]
    refine ⟨hAo, by simp, fun x hx y hy => ?_⟩
    simp at hy
    subst hy
    have := h.mem x (by simp [hx])
    exact ⟨by simp; omega, hbig x hx⟩
  · by_cases hi' : i < hi
    · obtain ⟨x, h3, h4, h5⟩ := h.all i h1 hi'
      rcases List.mem_append.1 h3 with h3 | h3
      · exact ⟨x, by simp [h3], h4, h5⟩
      · refine ⟨(hi, u hi), by simp, by simp; omega, ?_⟩
        have := hB x h3
        dsimp only
        omega
    · obtain rfl : i = hi := by omega
      exact ⟨(i, u i), by simp, by simp, by simp⟩
/-- the place lo goes out of sight: it is the first, or none -/
theorem win_first {u : Int → Int} {lo hi : Int} {x : Int × Int} {L : List (Int × Int)} (h : Win u lo hi (x :: L)) (hx : x.1 = lo) : Win u (lo + 1) hi L := by
  have ho := List.pairwise_cons.1 h.ord
  refine ⟨fun y hy => ?_, ho.2, fun i h1 h2 => ?_⟩
  · have h1 := h.mem y (by simp [hy])
    have h2 := (ho.1 y hy).1
    exact ⟨by omega, h1.2.1, h1.2.2⟩
  · obtain ⟨y, h3, h4, h5⟩ := h.all i (by omega) h2
    rcases List.mem_cons.1 h3 with rfl | h3
    · omega
    · exact ⟨y, h3, h4, h5⟩
theorem win_other {u : Int → Int} {lo hi : Int} {L : List (Int × Int)} (h : Win u lo hi L) (hx : ∀ x r, L = x :: r → x.1 ≠ lo) : Win u (lo + 1) hi L := by
  refine ⟨fun y hy => ?_, h.ord, fun i h1 h2 => h.all i (by omega) h2⟩
  have h1 := h.mem y hy
  refine ⟨?_, h1.2.1, h1.2.2⟩
  cases L with
  | nil => simp at hy
  | cons x r =>
    have h2 := hx x r rfl
    rcases List.mem_cons.1 hy with rfl | h3
    · omega
    · have h4 := ((List.pairwise_cons.1 h.ord).1 y h3).1
      have h5 := h.mem x (by simp)
      omega
/-- the first is the greatest -/
theorem win_most {u : Int → Int} {lo hi : Int} {x : Int × Int} {L : List (Int × Int)} (h : Win u lo hi (x :: L)) : Ext false u lo hi x.2 := by
  obtain ⟨h1, h2, h3⟩ := h.mem x (by simp)
  refine ⟨⟨x.1, h1, h2, h3.symm⟩, fun i i1 i2 => ?_⟩
  obtain ⟨y, y1, y2, y3⟩ := h.all i i1 i2
  have : y.2 ≤ x.2 := by
    rcases List.mem_cons.1 y1 with rfl | y1
    · omega
    · exact ((List.pairwise_cons.1 h.ord).1 y y1).2
  show u i ≤ x.2
  omega
theorem win_some {u : Int → Int} {lo hi : Int} {L : List (Int × Int)} (h : Win u lo hi L) (hl : lo < hi) : ∃ x r, L = x :: r := by
  obtain ⟨x, hx, -⟩ := h.all lo (Int.le_refl _) hl
  cases L with
  | nil => simp at hx
  | cons x r => exact ⟨x, r, rfl⟩
end Go.Proofs.Ytfkbdpbgeglgaaa.Num
