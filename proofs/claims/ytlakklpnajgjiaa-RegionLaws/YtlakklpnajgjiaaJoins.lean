/- Join, Meet and Cut of regions: contracts. -/
import Derived.Test.YtlakklpnajgjiaaComb
namespace Go.Proofs.Ytlakklpnajgjiaa
open Num Go.RowKit
set_option linter.unusedVariables false

theorem orFn (x y : Bool) (w : World) : Calls Try.prog 40 #[.bool x, .bool y] w fun e w' => e = .returned (.bool (orF x y)) ∧ w' = w := by
  cases x <;> cases y
  all_goals
    go_enter Try.func40, Try.ntmps40
    go_wp2
    go_ret
    exact ⟨rfl, rfl⟩
theorem andFn (x y : Bool) (w : World) : Calls Try.prog 43 #[.bool x, .bool y] w fun e w' => e = .returned (.bool (andF x y)) ∧ w' = w := by
  cases x <;> cases y
  all_goals
    go_enter Try.func43, Try.ntmps43
    go_wp2
    go_ret
    exact ⟨rfl, rfl⟩
theorem cutFn (x y : Bool) (w : World) : Calls Try.prog 44 #[.bool x, .bool y] w fun e w' => e = .returned (.bool (cutF x y)) ∧ w' = w := by
  cases x <;> cases y
  all_goals
    go_enter Try.func44, Try.ntmps44
    go_wp2
    go_ret
    exact ⟨rfl, rfl⟩
theorem enter40 (args : Array Value) (w : World) : (callFunc 40 args).run Try.prog w = .ok (.enter 40 args) w := by
  simp [callFunc, go_sem]
  rw [if_neg (by simp [Try.f40]), if_neg (by simp [Try.f40])]
theorem enter43 (args : Array Value) (w : World) : (callFunc 43 args).run Try.prog w = .ok (.enter 43 args) w := by
  simp [callFunc, go_sem]
  rw [if_neg (by simp [Try.f43]), if_neg (by simp [Try.f43])]
theorem enter44 (args : Array Value) (w : World) : (callFunc 44 args).run Try.prog w = .ok (.enter 44 args) w := by
  simp [callFunc, go_sem]
  rw [if_neg (by simp [Try.f44]), if_neg (by simp [Try.f44])]

theorem join_any (W : World) (ao : Option Addr) (n c b off : Nat) (l : List R) (ao' : Option Addr) (n' c' b' off' : Nat) (l' : List R) (hv : Vw W ao n c b off l) (hv' : Vw W ao' n' c' b' off' l')
    (hN : l.length + l'.length ≤ 900000) (out : List R) (ho : comb orF l l' = some out) :
    Calls Try.prog 16 #[.slice ao n c, .slice ao' n' c'] W fun e w' => RetO W.heap.size w' e out ∧ Below W.heap.size W w' := by
  have C := combine_any 40 orF enter40 orFn W ao n c b off l ao' n' c' b' off' l' hv hv' hN out ho
  have HC := hid C
  clear C hv hv' ho
  go_enter Try.func16, Try.ntmps16
  go_wp2_with (go_at_call 39; with_reducible refine Calls.mono HC.out ?_; rintro e w1 ⟨hr, hb⟩; have HB := hid hb; obtain ⟨ao3, n3, c3, b3, off3, rfl, hv3⟩ := retO hr; have HV := hid hv3; clear hr hb hv3)
  go_ret
  exact ⟨⟨_, _, _, _, _, rfl, HV.out⟩, HB.out⟩
theorem meet_any (W : World) (ao : Option Addr) (n c b off : Nat) (l : List R) (ao' : Option Addr) (n' c' b' off' : Nat) (l' : List R) (hv : Vw W ao n c b off l) (hv' : Vw W ao' n' c' b' off' l')
    (hN : l.length + l'.length ≤ 900000) (out : List R) (ho : comb andF l l' = some out) :
    Calls Try.prog 18 #[.slice ao n c, .slice ao' n' c'] W fun e w' => RetO W.heap.size w' e out ∧ Below W.heap.size W w' := by
  have C := combine_any 43 andF enter43 andFn W ao n c b off l ao' n' c' b' off' l' hv hv' hN out ho
  have HC := hid C
  clear C hv hv' ho
  go_enter Try.func18, Try.ntmps18
  go_wp2_with (go_at_call 39; with_reducible refine Calls.mono HC.out ?_; rintro e w1 ⟨hr, hb⟩; have HB := hid hb; obtain ⟨ao3, n3, c3, b3, off3, rfl, hv3⟩ := retO hr; have HV := hid hv3; clear hr hb hv3)
  go_ret
  exact ⟨⟨_, _, _, _, _, rfl, HV.out⟩, HB.out⟩
theorem cut_any (W : World) (ao : Option Addr) (n c b off : Nat) (l : List R) (ao' : Option Addr) (n' c' b' off' : Nat) (l' : List R) (hv : Vw W ao n c b off l) (hv' : Vw W ao' n' c' b' off' l')
    (hN : l.length + l'.length ≤ 900000) (out : List R) (ho : comb cutF l l' = some out) :
    Calls Try.prog 19 #[.slice ao n c, .slice ao' n' c'] W fun e w' => RetO W.heap.size w' e out ∧ Below W.heap.size W w' := by
  have C := combine_any 44 cutF enter44 cutFn W ao n c b off l ao' n' c' b' off' l' hv hv' hN out ho
  have HC := hid C
  clear C hv hv' ho
  go_enter Try.func19, Try.ntmps19
  go_wp2_with (go_at_call 39; with_reducible refine Calls.mono HC.out ?_; rintro e w1 ⟨hr, hb⟩; have HB := hid hb; obtain ⟨ao3, n3, c3, b3, off3, rfl, hv3⟩ := retO hr; have HV := hid hv3; clear hr hb hv3)
  go_ret
  exact ⟨⟨_, _, _, _, _, rfl, HV.out⟩, HB.out⟩
end Go.Proofs.Ytlakklpnajgjiaa
