/-
  NARROWER THAN 'FOR EVERY INPUT', by the rows' own cells (each row's printed sentence says how): NeedNodes: laid · NeedAlls: laid · NeedCovers: laid · NeedGrows: laid · NeedKeeps: laid.
  DERIVED. THE GIVEN ROWS OF THIS SEAT. 5 by the template 'for every input the law returns true; each argument reads behind the call as it read before'; 0 by the template 'total and deterministic' (their statements: YtamojciiacmjaaaDoorTotals.lean).
  GIVEN WITH THE SEED: the statements are not yours to turn. If you find one false, say at which input.
  Laid BY PROGRAM, IN A SANDBOX (cutbox-rows.mjs): the forced cells as the released guide's own fill.sh prints them over the translation 01f7601e9e28e4fe… (all of the seat's roots in one cut). By AI agents, Wed Nov 11 2026. No macro, syntax, notation, axiom, sorry.
-/
import Derived.Test.YtamojciiacmjaaaDoorChecked
import GoSem.Claim
import GoSem.ClaimJoined
import GoSem.ClaimMapViews
import Derived.JoinedTies
import Derived.KernelRfl
namespace Go.Proofs.YtamojciiacmjaaaDoor
/- THE CELL 'sum', in the pinned program and in every row, IS THE sha256 OF THE DUMP (.gsa) THAT YtamojciiacmjaaaDoorProg.lean LOADS. Nothing in Lean hashes anything: it is a label: what it is worth is what the hold of that sum in a sandbox is worth. -/
noncomputable def Tryd.pinned : Pinned := { name := "ytamojciiacmjaaadoor", sum := "01f7601e9e28e4fe7821cfd42889fe12402de6aab3f38285bc054d4ff55adb66", checked := Tryd.checked }
namespace Rows
def none {H : Type} : Left H := { results := [], args := [] }

/- WHAT THE LISTED PACKAGE-LEVEL VARIABLES READ AS WHEN THE CALL BEGINS. Each datum BY PROGRAM (the guide's laid-datum.mjs) off the statement by which the dump's own 'gosem.cut.vars' lays the variable. In a bare row this is a premise. The card (YtamojciiacmjaaaDoorCards.lean) ties it to the program's text. -/
def laid_gouache_gouacheref12_least {H : Type} : DataW H := .agg [.lit (.int .i64 0), .lit (.int .i64 1), .lit (.int .i64 1), .lit (.int .i64 1), .lit (.int .i64 1), .lit (.int .i64 1), .lit (.int .i64 0), .lit (.int .i64 2), .lit (.int .i64 2), .lit (.int .i64 1), .lit (.int .i64 1), .lit (.int .i64 1), .lit (.int .i64 1)]
def laid_gouache_gouacheref12_most {H : Type} : DataW H := .agg [.lit (.int .i64 0), .lit (.int .i64 1), .lit (.int .i64 1), .lit (.int .i64 1), .lit (.int .i64 1), .lit (.int .i64 1), .lit (.int .i64 0), .lit (.int .i64 2), .lit (.int .i64 2), .lit (.int .i64 8), .lit (.int .i64 1), .lit (.int .i64 1), .lit (.int .i64 1)]
def laid_gouache_gouacheref12_params {H : Type} : DataW H := .agg [.lit (.int .i64 0), .lit (.int .i64 2), .lit (.int .i64 2), .lit (.int .i64 2), .lit (.int .i64 2), .lit (.int .i64 20), .lit (.int .i64 8), .lit (.int .i64 1), .lit (.int .i64 1), .lit (.int .i64 0), .lit (.int .i64 4), .lit (.int .i64 8), .lit (.int .i64 4)]

/-- 'gouachelaw14.NeedNodes': WHATEVER THE INPUT: true; the input reads as it did. -/
def needNodesSpec : ChangeSpec := { name := "needNodes", fn := fun _ => fun
  | [d1, d2] => { results := [.lit (.bool true)], args := [d1, d2] }
  | _ => none }
def needNodesRow : OpenClaim := { program := "ytamojciiacmjaaadoor", sum := "01f7601e9e28e4fe7821cfd42889fe12402de6aab3f38285bc054d4ff55adb66", func := "gouache/gouachelaw14.NeedNodes", spec := "needNodes", unfollowed := true, recurses := true, named := ["gouache/gouacheref12.least", "gouache/gouacheref12.most", "gouache/gouacheref12.params"], apart := false, laid := [("gouache/gouacheref12.least", laid_gouache_gouacheref12_least), ("gouache/gouacheref12.most", laid_gouache_gouacheref12_most), ("gouache/gouacheref12.params", laid_gouache_gouacheref12_params)] }
def NeedNodesSaid : Prop := needNodesRow.holds Tryd.pinned (OpenSpec.ofChange needNodesSpec)

/-- ITS FALSE NEIGHBOUR: 'it returns false'. Refute it at one input. -/
def needNodesWrong : ChangeSpec := { name := "needNodes", fn := fun _ => fun
  | [d1, d2] => { results := [.lit (.bool false)], args := [d1, d2] }
  | _ => none }
def NeedNodesWrongFalsely : Prop := needNodesRow.holds Tryd.pinned (OpenSpec.ofChange needNodesWrong)

/-- 'gouachelaw14.NeedAlls': WHATEVER THE INPUT: true; the input reads as it did. -/
def needAllsSpec : ChangeSpec := { name := "needAlls", fn := fun _ => fun
  | [d1, d2] => { results := [.lit (.bool true)], args := [d1, d2] }
  | _ => none }
def needAllsRow : OpenClaim := { program := "ytamojciiacmjaaadoor", sum := "01f7601e9e28e4fe7821cfd42889fe12402de6aab3f38285bc054d4ff55adb66", func := "gouache/gouachelaw14.NeedAlls", spec := "needAlls", unfollowed := true, recurses := true, named := ["gouache/gouacheref12.least", "gouache/gouacheref12.most", "gouache/gouacheref12.params"], apart := false, laid := [("gouache/gouacheref12.least", laid_gouache_gouacheref12_least), ("gouache/gouacheref12.most", laid_gouache_gouacheref12_most), ("gouache/gouacheref12.params", laid_gouache_gouacheref12_params)] }
def NeedAllsSaid : Prop := needAllsRow.holds Tryd.pinned (OpenSpec.ofChange needAllsSpec)

/-- ITS FALSE NEIGHBOUR: 'it returns false'. Refute it at one input. -/
def needAllsWrong : ChangeSpec := { name := "needAlls", fn := fun _ => fun
  | [d1, d2] => { results := [.lit (.bool false)], args := [d1, d2] }
  | _ => none }
def NeedAllsWrongFalsely : Prop := needAllsRow.holds Tryd.pinned (OpenSpec.ofChange needAllsWrong)

/-- 'gouachelaw14.NeedCovers': WHATEVER THE INPUT: true; the input reads as it did. -/
def needCoversSpec : ChangeSpec := { name := "needCovers", fn := fun _ => fun
  | [d1, d2] => { results := [.lit (.bool true)], args := [d1, d2] }
  | _ => none }
def needCoversRow : OpenClaim := { program := "ytamojciiacmjaaadoor", sum := "01f7601e9e28e4fe7821cfd42889fe12402de6aab3f38285bc054d4ff55adb66", func := "gouache/gouachelaw14.NeedCovers", spec := "needCovers", unfollowed := true, recurses := true, named := ["gouache/gouacheref12.least", "gouache/gouacheref12.most", "gouache/gouacheref12.params"], apart := false, laid := [("gouache/gouacheref12.least", laid_gouache_gouacheref12_least), ("gouache/gouacheref12.most", laid_gouache_gouacheref12_most), ("gouache/gouacheref12.params", laid_gouache_gouacheref12_params)] }
def NeedCoversSaid : Prop := needCoversRow.holds Tryd.pinned (OpenSpec.ofChange needCoversSpec)

/-- ITS FALSE NEIGHBOUR: 'it returns false'. Refute it at one input. -/
def needCoversWrong : ChangeSpec := { name := "needCovers", fn := fun _ => fun
  | [d1, d2] => { results := [.lit (.bool false)], args := [d1, d2] }
  | _ => none }
def NeedCoversWrongFalsely : Prop := needCoversRow.holds Tryd.pinned (OpenSpec.ofChange needCoversWrong)

/-- 'gouachelaw14.NeedGrows': WHATEVER THE INPUT: true; the input reads as it did. -/
def needGrowsSpec : ChangeSpec := { name := "needGrows", fn := fun _ => fun
  | [d1, d2, d3] => { results := [.lit (.bool true)], args := [d1, d2, d3] }
  | _ => none }
def needGrowsRow : OpenClaim := { program := "ytamojciiacmjaaadoor", sum := "01f7601e9e28e4fe7821cfd42889fe12402de6aab3f38285bc054d4ff55adb66", func := "gouache/gouachelaw14.NeedGrows", spec := "needGrows", unfollowed := true, recurses := true, named := ["gouache/gouacheref12.least", "gouache/gouacheref12.most", "gouache/gouacheref12.params"], apart := false, laid := [("gouache/gouacheref12.least", laid_gouache_gouacheref12_least), ("gouache/gouacheref12.most", laid_gouache_gouacheref12_most), ("gouache/gouacheref12.params", laid_gouache_gouacheref12_params)] }
def NeedGrowsSaid : Prop := needGrowsRow.holds Tryd.pinned (OpenSpec.ofChange needGrowsSpec)

/-- ITS FALSE NEIGHBOUR: 'it returns false'. Refute it at one input. -/
def needGrowsWrong : ChangeSpec := { name := "needGrows", fn := fun _ => fun
  | [d1, d2, d3] => { results := [.lit (.bool false)], args := [d1, d2, d3] }
  | _ => none }
def NeedGrowsWrongFalsely : Prop := needGrowsRow.holds Tryd.pinned (OpenSpec.ofChange needGrowsWrong)

/-- 'gouachelaw14.NeedKeeps': WHATEVER THE INPUT: true; the input reads as it did. -/
def needKeepsSpec : ChangeSpec := { name := "needKeeps", fn := fun _ => fun
  | [d1, d2] => { results := [.lit (.bool true)], args := [d1, d2] }
  | _ => none }
def needKeepsRow : OpenClaim := { program := "ytamojciiacmjaaadoor", sum := "01f7601e9e28e4fe7821cfd42889fe12402de6aab3f38285bc054d4ff55adb66", func := "gouache/gouachelaw14.NeedKeeps", spec := "needKeeps", unfollowed := true, recurses := true, named := ["gouache/gouacheref12.least", "gouache/gouacheref12.most", "gouache/gouacheref12.params"], apart := false, laid := [("gouache/gouacheref12.least", laid_gouache_gouacheref12_least), ("gouache/gouacheref12.most", laid_gouache_gouacheref12_most), ("gouache/gouacheref12.params", laid_gouache_gouacheref12_params)] }
def NeedKeepsSaid : Prop := needKeepsRow.holds Tryd.pinned (OpenSpec.ofChange needKeepsSpec)

/-- ITS FALSE NEIGHBOUR: 'it returns false'. Refute it at one input. -/
def needKeepsWrong : ChangeSpec := { name := "needKeeps", fn := fun _ => fun
  | [d1, d2] => { results := [.lit (.bool false)], args := [d1, d2] }
  | _ => none }
def NeedKeepsWrongFalsely : Prop := needKeepsRow.holds Tryd.pinned (OpenSpec.ofChange needKeepsWrong)

/- THE SECOND FORM. 'bulk': how many values and letters a reading holds, each counted each time it is reached (what is shared counts as often as it is met; a slice's spare places count too). A statement '..UptoSaid' is the law's where the arguments, and the package variables that the reading takes, are together of bulk at most 1048576: NARROWER than '..Said'. Prove '..Said' where nothing that the law and all that it calls make is longer than what came in: it says more and counts as full. Else prove '..UptoSaid'. A law counts once. -/
mutual
def uptoBulk {H : Type} : DataW H → Nat
  | .lit (.string bytes) => bytes.length + 1
  | .lit _ => 1
  | .nil => 1
  | .ptr d => uptoBulk d + 1
  | .slice elems spare => uptoBulkAll elems + uptoBulkAll spare + 1
  | .agg parts => uptoBulkAll parts + 1
  | .iface _ d => uptoBulk d + 1
  | .map entries => uptoBulkEntries entries + 1
  | .held _ => 1
def uptoBulkAll {H : Type} : List (DataW H) → Nat
  | [] => 0
  | d :: r => uptoBulk d + uptoBulkAll r
def uptoBulkEntries {H : Type} : List (Lit × DataW H) → Nat
  | [] => 0
  | x :: r => uptoBulkEntry x + uptoBulkEntries r
def uptoBulkEntry {H : Type} : Lit × DataW H → Nat
  | (.string bytes, d) => bytes.length + uptoBulk d + 1
  | (_, d) => uptoBulk d + 1
 end
def uptoSmall : (H : Type) → List (DataW H) → Bool := fun _ ds => decide (uptoBulkAll ds ≤ 1048576)
def OpenSpec.upto (s : _root_.Go.ChangeSpec) : _root_.Go.OpenSpec := { _root_.Go.OpenSpec.ofChange s with cond := some uptoSmall }

/-- 'gouachelaw14.NeedNodes', WHERE WHAT IT READS IS OF BULK AT MOST 1048576: true; the input reads as it did. -/
def needNodesUptoRow : OpenClaim := { program := "ytamojciiacmjaaadoor", sum := "01f7601e9e28e4fe7821cfd42889fe12402de6aab3f38285bc054d4ff55adb66", func := "gouache/gouachelaw14.NeedNodes", spec := "needNodes", unfollowed := true, recurses := true, named := ["gouache/gouacheref12.least", "gouache/gouacheref12.most", "gouache/gouacheref12.params"], apart := false, laid := [("gouache/gouacheref12.least", laid_gouache_gouacheref12_least), ("gouache/gouacheref12.most", laid_gouache_gouacheref12_most), ("gouache/gouacheref12.params", laid_gouache_gouacheref12_params)], narrowed := true }
def NeedNodesUptoSaid : Prop := needNodesUptoRow.holds Tryd.pinned (OpenSpec.upto needNodesSpec)

/-- 'gouachelaw14.NeedAlls', WHERE WHAT IT READS IS OF BULK AT MOST 1048576: true; the input reads as it did. -/
def needAllsUptoRow : OpenClaim := { program := "ytamojciiacmjaaadoor", sum := "01f7601e9e28e4fe7821cfd42889fe12402de6aab3f38285bc054d4ff55adb66", func := "gouache/gouachelaw14.NeedAlls", spec := "needAlls", unfollowed := true, recurses := true, named := ["gouache/gouacheref12.least", "gouache/gouacheref12.most", "gouache/gouacheref12.params"], apart := false, laid := [("gouache/gouacheref12.least", laid_gouache_gouacheref12_least), ("gouache/gouacheref12.most", laid_gouache_gouacheref12_most), ("gouache/gouacheref12.params", laid_gouache_gouacheref12_params)], narrowed := true }
def NeedAllsUptoSaid : Prop := needAllsUptoRow.holds Tryd.pinned (OpenSpec.upto needAllsSpec)

/-- 'gouachelaw14.NeedCovers', WHERE WHAT IT READS IS OF BULK AT MOST 1048576: true; the input reads as it did. -/
def needCoversUptoRow : OpenClaim := { program := "ytamojciiacmjaaadoor", sum := "01f7601e9e28e4fe7821cfd42889fe12402de6aab3f38285bc054d4ff55adb66", func := "gouache/gouachelaw14.NeedCovers", spec := "needCovers", unfollowed := true, recurses := true, named := ["gouache/gouacheref12.least", "gouache/gouacheref12.most", "gouache/gouacheref12.params"], apart := false, laid := [("gouache/gouacheref12.least", laid_gouache_gouacheref12_least), ("gouache/gouacheref12.most", laid_gouache_gouacheref12_most), ("gouache/gouacheref12.params", laid_gouache_gouacheref12_params)], narrowed := true }
def NeedCoversUptoSaid : Prop := needCoversUptoRow.holds Tryd.pinned (OpenSpec.upto needCoversSpec)

/-- 'gouachelaw14.NeedGrows', WHERE WHAT IT READS IS OF BULK AT MOST 1048576: true; the input reads as it did. -/
def needGrowsUptoRow : OpenClaim := { program := "ytamojciiacmjaaadoor", sum := "01f7601e9e28e4fe7821cfd42889fe12402de6aab3f38285bc054d4ff55adb66", func := "gouache/gouachelaw14.NeedGrows", spec := "needGrows", unfollowed := true, recurses := true, named := ["gouache/gouacheref12.least", "gouache/gouacheref12.most", "gouache/gouacheref12.params"], apart := false, laid := [("gouache/gouacheref12.least", laid_gouache_gouacheref12_least), ("gouache/gouacheref12.most", laid_gouache_gouacheref12_most), ("gouache/gouacheref12.params", laid_gouache_gouacheref12_params)], narrowed := true }
def NeedGrowsUptoSaid : Prop := needGrowsUptoRow.holds Tryd.pinned (OpenSpec.upto needGrowsSpec)

/-- 'gouachelaw14.NeedKeeps', WHERE WHAT IT READS IS OF BULK AT MOST 1048576: true; the input reads as it did. -/
def needKeepsUptoRow : OpenClaim := { program := "ytamojciiacmjaaadoor", sum := "01f7601e9e28e4fe7821cfd42889fe12402de6aab3f38285bc054d4ff55adb66", func := "gouache/gouachelaw14.NeedKeeps", spec := "needKeeps", unfollowed := true, recurses := true, named := ["gouache/gouacheref12.least", "gouache/gouacheref12.most", "gouache/gouacheref12.params"], apart := false, laid := [("gouache/gouacheref12.least", laid_gouache_gouacheref12_least), ("gouache/gouacheref12.most", laid_gouache_gouacheref12_most), ("gouache/gouacheref12.params", laid_gouache_gouacheref12_params)], narrowed := true }
def NeedKeepsUptoSaid : Prop := needKeepsUptoRow.holds Tryd.pinned (OpenSpec.upto needKeepsSpec)

end Rows
end Go.Proofs.YtamojciiacmjaaaDoor
