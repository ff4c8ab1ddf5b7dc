/- What turning there and back, turning twice, and turning sums come to, over whole numbers. -/
import Derived.Test.YtilmmemghpagmaaAwake
namespace Go.Proofs.Ytilmmemghpagmaa
open Num

theorem back {a b k u v : Int} (ha : 1 ≤ a ∧ a ≤ 1048576) (hb : 1 ≤ b ∧ b ≤ 1048576) (hu : -1048576 ≤ u ∧ u ≤ 1048576) (hv : -1048576 ≤ v ∧ v ≤ 1048576) :
    fromX a b k (toX a b k u v) (toY a b k u v) = u ∧ fromY a b k (toX a b k u v) (toY a b k u v) = v ∧ (-4398046511104 ≤ toX a b k u v ∧ toX a b k u v ≤ 4398046511104) ∧ (-4398046511104 ≤ toY a b k u v ∧ toY a b k u v ≤ 4398046511104)
    ∧ ((0 ≤ u ∧ 0 ≤ v ∧ u < a ∧ v < b) ↔ (0 ≤ toX a b k u v ∧ 0 ≤ toY a b k u v ∧ toX a b k u v < szX a b k ∧ toY a b k u v < szY a b k)) := by
  rcases quart k with hk | hk | hk | hk
  · obtain ⟨e1, e2⟩ := to_0 (u := u) (v := v) hk ha.1 hb.1
    rw [e1, e2]
    obtain ⟨e3, e4⟩ := from_0 (u := u) (v := v) hk ha.1 hb.1
    rw [e3, e4, show szX a b k = a by unfold szX; rw [if_neg (by omega)], show szY a b k = b by unfold szY; rw [if_neg (by omega)]]
    omega
  · obtain ⟨e1, e2⟩ := to_1 (u := u) (v := v) hk ha.1 hb.1
    rw [e1, e2]
    obtain ⟨e3, e4⟩ := from_1 (u := b - 1 - v) (v := u) hk ha.1 hb.1
    rw [e3, e4, show szX a b k = b by unfold szX; rw [if_pos (by omega)], show szY a b k = a by unfold szY; rw [if_pos (by omega)]]
    omega
  · obtain ⟨e1, e2⟩ := to_2 (u := u) (v := v) hk ha.1 hb.1
    rw [e1, e2]
    obtain ⟨e3, e4⟩ := from_2 (u := a - 1 - u) (v := b - 1 - v) hk ha.1 hb.1
    rw [e3, e4, show szX a b k = a by unfold szX; rw [if_neg (by omega)], show szY a b k = b by unfold szY; rw [if_neg (by omega)]]
    omega
  · obtain ⟨e1, e2⟩ := to_3 (u := u) (v := v) hk ha.1 hb.1
    rw [e1, e2]
    obtain ⟨e3, e4⟩ := from_3 (u := v) (v := a - 1 - u) hk ha.1 hb.1
    rw [e3, e4, show szX a b k = b by unfold szX; rw [if_pos (by omega)], show szY a b k = a by unfold szY; rw [if_pos (by omega)]]
    omega

theorem to_all {a b k u v : Int} (ha : 1 ≤ a) (hb : 1 ≤ b) :
    (k % 4 = 0 → toX a b k u v = u ∧ toY a b k u v = v) ∧ (k % 4 = 1 → toX a b k u v = b - 1 - v ∧ toY a b k u v = u) ∧
    (k % 4 = 2 → toX a b k u v = a - 1 - u ∧ toY a b k u v = b - 1 - v) ∧ (k % 4 = 3 → toX a b k u v = v ∧ toY a b k u v = a - 1 - u) :=
  ⟨fun h => to_0 h ha hb, fun h => to_1 h ha hb, fun h => to_2 h ha hb, fun h => to_3 h ha hb⟩

theorem sz_all {a b k : Int} : (k % 2 = 0 → szX a b k = a ∧ szY a b k = b) ∧ (k % 2 = 1 → szX a b k = b ∧ szY a b k = a) := by
  constructor
  · intro h; unfold szX szY; rw [if_neg (by omega), if_neg (by omega)]; exact ⟨rfl, rfl⟩
  · intro h; unfold szX szY; rw [if_pos h, if_pos h]; exact ⟨rfl, rfl⟩

theorem sz_bd {a b k : Int} (ha : 1 ≤ a ∧ a ≤ 1048576) (hb : 1 ≤ b ∧ b ≤ 1048576) : (1 ≤ szX a b k ∧ szX a b k ≤ 1048576) ∧ (1 ≤ szY a b k ∧ szY a b k ≤ 1048576) := by
  have := sz_all (a := a) (b := b) (k := k); omega

theorem twice {a b j k u v : Int} (ha : 1 ≤ a ∧ a ≤ 1048576) (hb : 1 ≤ b ∧ b ≤ 1048576) :
    toX (szX a b j) (szY a b j) k (toX a b j u v) (toY a b j u v) = toX a b (j + k) u v ∧ toY (szX a b j) (szY a b j) k (toX a b j u v) (toY a b j u v) = toY a b (j + k) u v := by
  have s := sz_bd (k := j) ha hb
  have z := sz_all (a := a) (b := b) (k := j)
  have t1 := to_all (a := a) (b := b) (k := j) (u := u) (v := v) ha.1 hb.1
  have t2 := to_all (k := k) (u := toX a b j u v) (v := toY a b j u v) s.1.1 s.2.1
  have t3 := to_all (a := a) (b := b) (k := j + k) (u := u) (v := v) ha.1 hb.1
  generalize toX (szX a b j) (szY a b j) k (toX a b j u v) (toY a b j u v) = x at *
  generalize toY (szX a b j) (szY a b j) k (toX a b j u v) (toY a b j u v) = y at *
  generalize toX a b j u v = x1 at *
  generalize toY a b j u v = y1 at *
  generalize toX a b (j + k) u v = x2 at *
  generalize toY a b (j + k) u v = y2 at *
  generalize szX a b j = c at *
  generalize szY a b j = d at *
  obtain ⟨p0, p1, p2, p3⟩ := t1
  obtain ⟨q0, q1, q2, q3⟩ := t2
  obtain ⟨r0, r1, r2, r3⟩ := t3
  obtain ⟨z0, z1⟩ := z
  rcases quart j with hj | hj | hj | hj
  · obtain ⟨rfl, rfl⟩ := p0 hj
    obtain ⟨rfl, rfl⟩ := z0 (by omega)
    clear p1 p2 p3 z1
    rcases quart k with hk | hk | hk | hk
    · have := q0 hk; have := r0 (by omega); omega
    · have := q1 hk; have := r1 (by omega); omega
    · have := q2 hk; have := r2 (by omega); omega
    · have := q3 hk; have := r3 (by omega); omega
  · obtain ⟨rfl, rfl⟩ := p1 hj
    obtain ⟨rfl, rfl⟩ := z1 (by omega)
    rcases quart k with hk | hk | hk | hk
    · have := q0 hk; have := r1 (by omega); omega
    · have := q1 hk; have := r2 (by omega); omega
    · have := q2 hk; have := r3 (by omega); omega
    · have := q3 hk; have := r0 (by omega); omega
  · obtain ⟨rfl, rfl⟩ := p2 hj
    obtain ⟨rfl, rfl⟩ := z0 (by omega)
    rcases quart k with hk | hk | hk | hk
    · have := q0 hk; have := r2 (by omega); omega
    · have := q1 hk; have := r3 (by omega); omega
    · have := q2 hk; have := r0 (by omega); omega
    · have := q3 hk; have := r1 (by omega); omega
  · obtain ⟨rfl, rfl⟩ := p3 hj
    obtain ⟨rfl, rfl⟩ := z1 (by omega)
    rcases quart k with hk | hk | hk | hk
    · have := q0 hk; have := r3 (by omega); omega
    · have := q1 hk; have := r0 (by omega); omega
    · have := q2 hk; have := r1 (by omega); omega
    · have := q3 hk; have := r2 (by omega); omega

theorem tx_sum {k a b c d : Int} : tx k (a + c) (b + d) = tx k a b + tx k c d := by
  unfold tx; split
  · rfl
  · split
    · omega
    · split
      · omega
      · rfl
theorem ty_sum {k a b c d : Int} : ty k (a + c) (b + d) = ty k a b + ty k c d := by
  unfold ty; split
  · rfl
  · split
    · rfl
    · split <;> omega
end Go.Proofs.Ytilmmemghpagmaa
