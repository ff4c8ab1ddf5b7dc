/- What the functions on regions do, over lists: plain functions. -/
import Derived.Test.YtlakklpnajgjiaaNum
namespace Go.Proofs.Ytlakklpnajgjiaa.Num
set_option linter.unusedVariables false

/-- the first band -/
def firstL : List R → List R
  | [] => []
  | r :: t => r :: t.takeWhile (fun s => decide (s.y0 = r.y0))
def nextE (a : List R) (y : Int) : Int := match a with
  | [] => 9223372036854775807
  | r :: _ => if y < r.y0 then r.y0 else r.y1
def bandL (a : List R) (y : Int) : List R := match a with
  | [] => []
  | r :: t => if y < r.y0 then [] else firstL (r :: t)
def belowL (a : List R) (y : Int) : List R := match a with
  | [] => []
  | r :: t => if y < r.y1 then r :: t else (r :: t).drop (firstL (r :: t)).length
def edges (a : List R) : List Int := a.flatMap fun r => [r.x0, r.x1]
def seamB : List R → List R → Bool
  | [], [] => true
  | a :: as, b :: bs => if a.y1 = b.y0 ∧ a.x0 = b.x0 ∧ a.x1 = b.x1 then seamB as bs else false
  | _, _ => false

/-- what is made of a strip so far -/
structure St where
  made : List R
  opn : Bool
  x0 : Int
def passS (y0 y1 x : Int) (t : Bool) (s : St) : St :=
  if t = s.opn then s else ⟨if s.opn = true then s.made ++ [⟨s.x0, y0, x, y1⟩] else s.made, t, x⟩
def tailA (f : Bool → Bool → Bool) (y0 y1 : Int) : List Int → Bool → St → St
  | [], _, s => s
  | x :: l, p, s => tailA f y0 y1 l (!p) (passS y0 y1 x (f (!p) false) s)
def tailB (f : Bool → Bool → Bool) (y0 y1 : Int) : List Int → Bool → St → St
  | [], _, s => s
  | x :: l, p, s => tailB f y0 y1 l (!p) (passS y0 y1 x (f false (!p)) s)
def mergeS (f : Bool → Bool → Bool) (y0 y1 : Int) : Nat → List Int → Bool → List Int → Bool → St → St
  | 0, _, _, _, _, s => s
  | _ + 1, [], p, m, q, s => tailB f y0 y1 m q s
  | _ + 1, l, p, [], q, s => tailA f y0 y1 l p s
  | k + 1, x :: l, p, z :: m, q, s =>
    if x < z then mergeS f y0 y1 k l (!p) (z :: m) q (passS y0 y1 x (f (!p) q) s)
    else if z < x then mergeS f y0 y1 k (x :: l) p m (!q) (passS y0 y1 z (f p (!q)) s)
    else mergeS f y0 y1 k l (!p) m (!q) (passS y0 y1 x (f (!p) (!q)) s)

def setY1 (a b : List R) : List R := List.zipWith (fun r s => ⟨r.x0, r.y0, r.x1, s.y1⟩) a b
def settleL (made : List R) (last at' : Nat) : List R × Nat :=
  if made.drop at' = [] then (made, last)
  else if seamB ((made.take at').drop last) (made.drop at') = true then (made.take last ++ setY1 ((made.take at').drop last) (made.drop at'), last)
  else (made, at')

def combL (f : Bool → Bool → Bool) : Nat → List R → List R → Int → Nat → List R → Option (List R)
  | 0, _, _, _, _, _ => none
  | k + 1, a, b, y, last, made =>
    if a = [] ∧ b = [] then some made
    else
      let n := mn (nextE a y) (nextE b y)
      let s := mergeS f y n ((edges (bandL a y)).length + (edges (bandL b y)).length + 1) (edges (bandL a y)) false (edges (bandL b y)) false ⟨made, false, 0⟩
      combL f k (belowL a n) (belowL b n) n (settleL s.made last made.length).2 (settleL s.made last made.length).1

/-- two sets put together -/
def comb (f : Bool → Bool → Bool) (a b : List R) : Option (List R) := combL f (2 * (a.length + b.length) + 1) a b (-9223372036854775808) 0 []
def orF (p q : Bool) : Bool := p || q
def andF (p q : Bool) : Bool := p && q
def cutF (p q : Bool) : Bool := p && !q

def oneL (r : R) : List R := if empB (meet r ⟨-4398046511104, -4398046511104, 4398046511104, 4398046511104⟩) = true then [] else [meet r ⟨-4398046511104, -4398046511104, 4398046511104, 4398046511104⟩]
/-- the region of a list: halves are joined -/
def ofL : Nat → List R → Option (List R)
  | 0, _ => none
  | k + 1, [] => some []
  | k + 1, [r] => some (oneL r)
  | k + 1, l => match ofL k (l.take (l.length / 2)), ofL k (l.drop (l.length / 2)) with
    | some a, some b => comb orF a b
    | _, _ => none

-- the document's answer
def putL (l : List Int) (n : Int) : List Int := l.filter (fun m => decide (m < n)) ++ n :: l.filter (fun m => decide (n < m))
def hasL (a : List R) (x y : Int) : Bool := a.any fun r => hasB r x y
def wantL (f : Bool → Bool → Bool) (a b : List R) (x y : Int) : Bool := f (hasL a x y) (hasL b x y)
def xsOf (l : List R) : List Int := l.foldl (fun xs r => if empB r = true then xs else putL (putL xs r.x0) r.x1) []
def ysOf (l : List R) : List Int := l.foldl (fun ys r => if empB r = true then ys else putL (putL ys r.y0) r.y1) []
def setX1 (row : List R) (x : Int) : List R := match row.getLast? with
  | none => row
  | some r => row.dropLast ++ [⟨r.x0, r.y0, x, r.y1⟩]
def lastX1 (row : List R) (x : Int) : Bool := match row.getLast? with
  | none => false
  | some r => decide (r.x1 = x)
/-- a row of cells, from the left to the right; cells that touch are one -/
def rowL (want : Int → Bool) (y0 y1 : Int) : List Int → List R → List R
  | x :: x' :: xs, row => rowL want y0 y1 (x' :: xs) (if want x = true then (if lastX1 row x = true then setX1 row x' else row ++ [⟨x, y0, x', y1⟩]) else row)
  | _, row => row
def sameRow (y : Int) : List R → List R → Bool
  | [], [] => true
  | a :: as, b :: bs => if a.x0 = b.x0 ∧ a.x1 = b.x1 ∧ a.y1 = y then sameRow y as bs else false
  | _, _ => false
def rowsL (want : Int → Int → Bool) (xs : List Int) : List Int → List R → Nat → List R
  | y :: y' :: ys, out, last =>
    let row := rowL (fun x => want x y) y y' xs []
    if row ≠ [] ∧ sameRow y (out.drop last) row = true then rowsL want xs (y' :: ys) (out.take last ++ (out.drop last).map (fun r => ⟨r.x0, r.y0, r.x1, y'⟩)) last
    else rowsL want xs (y' :: ys) (out ++ row) out.length
  | _, out, _ => out
def setsL (f : Bool → Bool → Bool) (a b : List R) : List R := rowsL (wantL f a b) (xsOf (a ++ b)) (ysOf (a ++ b)) [] 0

-- a look: the document's examples
example : ofL 5 [⟨0, 0, 2, 2⟩, ⟨1, 1, 3, 3⟩] = some [⟨0, 0, 2, 1⟩, ⟨0, 1, 3, 2⟩, ⟨1, 2, 3, 3⟩] := by decide
example : ofL 5 [⟨0, 0, 1, 1⟩, ⟨1, 0, 2, 1⟩] = some [⟨0, 0, 2, 1⟩] := by decide
example : comb cutF [⟨0, 0, 3, 3⟩] [⟨1, 1, 2, 2⟩] = some [⟨0, 0, 3, 1⟩, ⟨0, 1, 1, 2⟩, ⟨2, 1, 3, 2⟩, ⟨0, 2, 3, 3⟩] := by decide
example : setsL orF [⟨0, 0, 2, 2⟩, ⟨1, 1, 3, 3⟩] [] = [⟨0, 0, 2, 1⟩, ⟨0, 1, 3, 2⟩, ⟨1, 2, 3, 3⟩] := by decide
example : setsL cutF [⟨0, 0, 3, 3⟩] [⟨1, 1, 2, 2⟩] = [⟨0, 0, 3, 1⟩, ⟨0, 1, 1, 2⟩, ⟨2, 1, 3, 2⟩, ⟨0, 2, 3, 3⟩] := by decide

end Go.Proofs.Ytlakklpnajgjiaa.Num
