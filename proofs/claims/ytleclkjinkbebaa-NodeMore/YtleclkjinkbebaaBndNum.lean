/- What is asked of parameters, as plain functions of lists. -/
import Derived.Test.YtleclkjinkbebaaOrdNum
namespace Go.Proofs.Ytleclkjinkbebaa.Num

/-- a function of lists of numbers -/
abbrev Fn1 := List Int → Bool
/-- is the number at a place within? -/
def inB (i : Nat) (lo hi : Int) (l : List Int) : Bool := decide (lo ≤ nth l i) && decide (nth l i ≤ hi)
def insB (start count : Nat) (lo hi : Int) : List Fn1 := (List.range count).map fun i => inB (start + i) lo hi
theorem insB_len (s c : Nat) (lo hi : Int) : (insB s c lo hi).length = c := by unfold insB; simp
theorem insB_succ (s k : Nat) (lo hi : Int) : insB s (k + 1) lo hi = insB s k lo hi ++ [inB (s + k) lo hi] := by unfold insB; rw [List.range_succ, List.map_append]; rfl
/-- the last one asks something besides -/
def togB : List Fn1 → Fn1 → List Fn1
  | [], _ => []
  | [f], g => [fun l => f l && g l]
  | f :: h :: r, g => f :: togB (h :: r) g
theorem togB_snoc : ∀ (fs : List Fn1) (f g : Fn1), togB (fs ++ [f]) g = fs ++ [fun l => f l && g l]
  | [], f, g => rfl
  | [a], f, g => rfl
  | a :: b :: r, f, g => by
    show a :: togB (b :: r ++ [f]) g = _
    rw [togB_snoc (b :: r) f g]
    rfl
theorem togB_len : ∀ (fs : List Fn1) (g : Fn1), (togB fs g).length = fs.length
  | [], _ => rfl
  | [_], _ => rfl
  | f :: h :: r, g => by show (togB (h :: r) g).length + 1 = _; rw [togB_len (h :: r) g]; rfl
def allB (fs : List Fn1) (l : List Int) : Bool := fs.all fun f => f l
theorem allB_tog : ∀ (fs : List Fn1) (g : Fn1) (l : List Int), fs ≠ [] → allB (togB fs g) l = (allB fs l && g l)
  | [], _, _, h => absurd rfl h
  | [f], g, l, _ => by simp [togB, allB]
  | f :: h :: r, g, l, _ => by
    have := allB_tog (h :: r) g l (by simp)
    unfold allB at this ⊢
    show (f l && (togB (h :: r) g).all _) = _
    rw [this]
    simp [Bool.and_assoc]
theorem allB_app (a b : List Fn1) (l : List Int) : allB (a ++ b) l = (allB a l && allB b l) := by unfold allB; rw [List.all_append]
/-- are so many from a place on within? -/
def nearB (l : List Int) (s c : Nat) (lo hi : Int) : Bool := allB (insB s c lo hi) l
theorem nearB_zero (l : List Int) (s : Nat) (lo hi : Int) : nearB l s 0 lo hi = true := rfl
theorem nearB_succ (l : List Int) (s k : Nat) (lo hi : Int) : nearB l s (k + 1) lo hi = (nearB l s k lo hi && inB (s + k) lo hi l) := by
  unfold nearB
  rw [insB_succ, allB_app]
  simp [allB]
theorem nearB_iff (l : List Int) (s c : Nat) (lo hi : Int) : nearB l s c lo hi = true ↔ ∀ i, i < c → lo ≤ nth l (s + i) ∧ nth l (s + i) ≤ hi := by
  unfold nearB allB insB
  rw [List.all_map, List.all_eq_true]
  constructor
  · intro h i hi'
    have := h i (List.mem_range.2 hi')
    simpa [inB] using this
  · intro h i hi'
    have := h i (List.mem_range.1 hi')
    simpa [inB] using this
/-- a matrix -/
def okI (n : Int) : Bool := decide (-32768 ≤ n) && decide (n ≤ 32767)
theorem ok_yes {n : Int} (h : -32768 ≤ n ∧ n ≤ 32767) : okI n = true := by simp [okI, h.1, h.2]
theorem ok_no {n : Int} (h : n < -32768 ∨ 32767 < n) : okI n = false := by
  simp only [okI, Bool.and_eq_false_iff, decide_eq_false_iff_not]; omega
def rightM (l : List Int) : Bool := decide (l.length = 20) && l.all okI
theorem all_step {l : List Int} {k : Nat} {m : Int} (h : l[k]? = some m) : (l.drop k).all okI = (okI m && (l.drop (k + 1)).all okI) := by
  obtain ⟨hk, rfl⟩ := List.getElem?_eq_some_iff.1 h
  rw [List.drop_eq_getElem_cons hk]; rfl
theorem rightM_len {l : List Int} (h : l.length ≠ 20) : rightM l = false := by unfold rightM; simp [h]
theorem rightM_all {l : List Int} (h : l.length = 20) : rightM l = l.all okI := by unfold rightM; simp [h]
theorem rightM_bad {l : List Int} (h : l.all okI = false) : rightM l = false := by unfold rightM; rw [h, Bool.and_false]
/-- a right pixel -/
def rightB (r g b a : Int) : Bool := decide (r ≤ a) && (decide (g ≤ a) && decide (b ≤ a))
/-- .. of numbers that are cut to bytes -/
def pixB (s : Nat) (l : List Int) : Bool := rightB (nth l s % 256) (nth l (s + 1) % 256) (nth l (s + 2) % 256) (nth l (s + 3) % 256)
/-- a side of a tile, as a machine's number -/
def wrapI (x : Int) : Int := (x + 9223372036854775808) % 18446744073709551616 - 9223372036854775808
theorem wrapI_id {x : Int} (h : -9223372036854775808 ≤ x ∧ x < 9223372036854775808) : wrapI x = x := by unfold wrapI; omega
def sideB (n : Int) : Bool := decide (0 < n) && decide (n ≤ 4096)
def tileB (l : List Int) : Bool := sideB (wrapI (nth l 2 - nth l 0)) && sideB (wrapI (nth l 3 - nth l 1))

/-- what a kind's parameters are asked -/
def bnds (op : Int) : List Fn1 :=
  if op = 1 then insB 0 2 (-1048576) 1048576
  else if op = 2 ∨ op = 3 ∨ op = 4 then insB 0 2 0 255
  else if op = 5 then togB (insB 0 20 (-9223372036854775808) 9223372036854775807) rightM
  else if op = 6 then togB (insB 0 4 0 255) (pixB 0) ++ insB 4 4 (-1048576) 1048576
  else if op = 7 then insB 0 1 0 6
  else if op = 8 then insB 0 1 0 5
  else if op = 10 then togB (insB 0 4 (-1048576) 1048576) tileB
  else if op = 11 then insB 0 2 (-1048576) 1048576 ++ (insB 2 2 0 255 ++ togB (insB 4 4 0 255) (pixB 4))
  else if op = 12 then insB 0 4 (-1048576) 1048576
  else []
def parI (op : Int) : Nat :=
  if op = 1 ∨ op = 2 ∨ op = 3 ∨ op = 4 then 2 else if op = 5 then 20 else if op = 6 ∨ op = 11 then 8 else if op = 7 ∨ op = 8 then 1 else if op = 10 ∨ op = 12 then 4 else 0
theorem bnds_len (op : Int) : (bnds op).length = parI op := by
  unfold bnds parI
  by_cases h1 : op = 1
  · subst h1; simp [insB_len]
  by_cases h2 : op = 2
  · subst h2; simp [insB_len]
  by_cases h3 : op = 3
  · subst h3; simp [insB_len]
  by_cases h4 : op = 4
  · subst h4; simp [insB_len]
  by_cases h5 : op = 5
  · subst h5; simp [insB_len, togB_len]
  by_cases h6 : op = 6
  · subst h6; simp [insB_len, togB_len]
  by_cases h7 : op = 7
  · subst h7; simp [insB_len]
  by_cases h8 : op = 8
  · subst h8; simp [insB_len]
  by_cases h10 : op = 10
  · subst h10; simp [insB_len, togB_len]
  by_cases h11 : op = 11
  · subst h11; simp [insB_len, togB_len]
  by_cases h12 : op = 12
  · subst h12; simp [insB_len]
  simp [h1, h2, h3, h4, h5, h6, h7, h8, h10, h11, h12]
/-- the least and the most inputs -/
def leastI (op : Int) : Int := if op = 6 then 0 else if op = 7 ∨ op = 8 then 2 else if 1 ≤ op ∧ op ≤ 12 then 1 else 0
def mostI (op : Int) : Int := if op = 6 then 0 else if op = 7 ∨ op = 8 then 2 else if op = 9 then 8 else if 1 ≤ op ∧ op ≤ 12 then 1 else 0
def kindB (op : Int) : Bool := decide (1 ≤ op) && decide (op ≤ 12)
/-- an input that there is -/
def inpB (count : Int) (x : Int) : Bool := decide (x = -1) || (decide (0 ≤ x) && decide (x < count))
/-- what is wrong with a node -/
def oneI (op : Int) (l p : List Int) (count : Int) : Int :=
  if kindB op = false then 1
  else if (l.length : Int) < leastI op ∨ mostI op < (l.length : Int) ∨ p.length ≠ parI op then 7
  else if l.all (inpB count) = false then 8
  else if allB (bnds op) p = false then 3
  else 0
end Go.Proofs.Ytleclkjinkbebaa.Num
