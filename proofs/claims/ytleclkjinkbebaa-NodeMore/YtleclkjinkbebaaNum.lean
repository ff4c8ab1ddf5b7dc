/- Plain numbers: what stands at a place of a list. No Go in sight. -/
namespace Go.Proofs.Ytleclkjinkbebaa.Num

def nth (l : List Int) (i : Nat) : Int := l.getD i 0
theorem nth_get {l : List Int} {i : Nat} (h : i < l.length) : l[i]? = some (nth l i) := by unfold nth; rw [List.getElem?_eq_getElem h]; simp [h]
theorem nth_some {l : List Int} {i : Nat} {n : Int} (h : l[i]? = some n) : nth l i = n := by unfold nth; simp [h]
end Go.Proofs.Ytleclkjinkbebaa.Num
