/-
  No cell of these rows narrows 'for every input' (looked for: loops, veiled, ifaces, maps, wideKeys, modest, calm, conditions, laid).
  DERIVED. THE GIVEN ROWS OF THIS SEAT. 5 by the template 'for every input the law returns true; each argument reads behind the call as it read before'; 0 by the template 'total and deterministic' (their statements: YthnilblbnglmaaaTotals.lean).
  GIVEN WITH THE SEED: the statements are not yours to turn. If you find one false, say at which input.
  Laid BY PROGRAM, IN A SANDBOX (cutbox-rows.mjs): the forced cells as the released guide's own fill.sh prints them over the translation b0b48c2bf600f268… (all of the seat's roots in one cut). By AI agents, Wed Nov 11 2026. No macro, syntax, notation, axiom, sorry.
-/
import Derived.Test.YthnilblbnglmaaaChecked
import GoSem.Claim
import GoSem.ClaimJoined
import GoSem.ClaimMapViews
import Derived.JoinedTies
import Derived.KernelRfl
namespace Go.Proofs.Ythnilblbnglmaaa
/- THE CELL 'sum', in the pinned program and in every row, IS THE sha256 OF THE DUMP (.gsa) THAT YthnilblbnglmaaaProg.lean LOADS. Nothing in Lean hashes anything: it is a label: what it is worth is what the hold of that sum in a sandbox is worth. -/
noncomputable def Try.pinned : Pinned := { name := "ythnilblbnglmaaa", sum := "b0b48c2bf600f268209edab1567668c2856348b6f6bf187571f26495025076ab", checked := Try.checked }
namespace Rows
def none {H : Type} : Left H := { results := [], args := [] }

/-- 'gouachelaw01.ToneProducts': WHATEVER THE INPUT: true; the input reads as it did. -/
def toneProductsSpec : ChangeSpec := { name := "toneProducts", fn := fun _ => fun
  | [d1, d2, d3] => { results := [.lit (.bool true)], args := [d1, d2, d3] }
  | _ => none }
def toneProductsRow : OpenClaim := { program := "ythnilblbnglmaaa", sum := "b0b48c2bf600f268209edab1567668c2856348b6f6bf187571f26495025076ab", func := "gouache/gouachelaw01.ToneProducts", spec := "toneProducts", apart := false }
def ToneProductsSaid : Prop := toneProductsRow.holds Try.pinned (OpenSpec.ofChange toneProductsSpec)

/-- ITS FALSE NEIGHBOUR: 'it returns false'. Refute it at one input. -/
def toneProductsWrong : ChangeSpec := { name := "toneProducts", fn := fun _ => fun
  | [d1, d2, d3] => { results := [.lit (.bool false)], args := [d1, d2, d3] }
  | _ => none }
def ToneProductsWrongFalsely : Prop := toneProductsRow.holds Try.pinned (OpenSpec.ofChange toneProductsWrong)

/-- 'gouachelaw01.TonePixels': WHATEVER THE INPUT: true; the input reads as it did. -/
def tonePixelsSpec : ChangeSpec := { name := "tonePixels", fn := fun _ => fun
  | [d1, d2] => { results := [.lit (.bool true)], args := [d1, d2] }
  | _ => none }
def tonePixelsRow : OpenClaim := { program := "ythnilblbnglmaaa", sum := "b0b48c2bf600f268209edab1567668c2856348b6f6bf187571f26495025076ab", func := "gouache/gouachelaw01.TonePixels", spec := "tonePixels", apart := false }
def TonePixelsSaid : Prop := tonePixelsRow.holds Try.pinned (OpenSpec.ofChange tonePixelsSpec)

/-- ITS FALSE NEIGHBOUR: 'it returns false'. Refute it at one input. -/
def tonePixelsWrong : ChangeSpec := { name := "tonePixels", fn := fun _ => fun
  | [d1, d2] => { results := [.lit (.bool false)], args := [d1, d2] }
  | _ => none }
def TonePixelsWrongFalsely : Prop := tonePixelsRow.holds Try.pinned (OpenSpec.ofChange tonePixelsWrong)

/-- 'gouachelaw01.ToneNear': WHATEVER THE INPUT: true; the input reads as it did. -/
def toneNearSpec : ChangeSpec := { name := "toneNear", fn := fun _ => fun
  | [d1, d2] => { results := [.lit (.bool true)], args := [d1, d2] }
  | _ => none }
def toneNearRow : OpenClaim := { program := "ythnilblbnglmaaa", sum := "b0b48c2bf600f268209edab1567668c2856348b6f6bf187571f26495025076ab", func := "gouache/gouachelaw01.ToneNear", spec := "toneNear", apart := false }
def ToneNearSaid : Prop := toneNearRow.holds Try.pinned (OpenSpec.ofChange toneNearSpec)

/-- ITS FALSE NEIGHBOUR: 'it returns false'. Refute it at one input. -/
def toneNearWrong : ChangeSpec := { name := "toneNear", fn := fun _ => fun
  | [d1, d2] => { results := [.lit (.bool false)], args := [d1, d2] }
  | _ => none }
def ToneNearWrongFalsely : Prop := toneNearRow.holds Try.pinned (OpenSpec.ofChange toneNearWrong)

/-- 'gouachelaw01.ToneRises': WHATEVER THE INPUT: true; the input reads as it did. -/
def toneRisesSpec : ChangeSpec := { name := "toneRises", fn := fun _ => fun
  | [d1, d2, d3] => { results := [.lit (.bool true)], args := [d1, d2, d3] }
  | _ => none }
def toneRisesRow : OpenClaim := { program := "ythnilblbnglmaaa", sum := "b0b48c2bf600f268209edab1567668c2856348b6f6bf187571f26495025076ab", func := "gouache/gouachelaw01.ToneRises", spec := "toneRises", apart := false }
def ToneRisesSaid : Prop := toneRisesRow.holds Try.pinned (OpenSpec.ofChange toneRisesSpec)

/-- ITS FALSE NEIGHBOUR: 'it returns false'. Refute it at one input. -/
def toneRisesWrong : ChangeSpec := { name := "toneRises", fn := fun _ => fun
  | [d1, d2, d3] => { results := [.lit (.bool false)], args := [d1, d2, d3] }
  | _ => none }
def ToneRisesWrongFalsely : Prop := toneRisesRow.holds Try.pinned (OpenSpec.ofChange toneRisesWrong)

/-- 'gouachelaw01.ToneRight': WHATEVER THE INPUT: true; the input reads as it did. -/
def toneRightSpec : ChangeSpec := { name := "toneRight", fn := fun _ => fun
  | [d1, d2] => { results := [.lit (.bool true)], args := [d1, d2] }
  | _ => none }
def toneRightRow : OpenClaim := { program := "ythnilblbnglmaaa", sum := "b0b48c2bf600f268209edab1567668c2856348b6f6bf187571f26495025076ab", func := "gouache/gouachelaw01.ToneRight", spec := "toneRight", apart := false }
def ToneRightSaid : Prop := toneRightRow.holds Try.pinned (OpenSpec.ofChange toneRightSpec)

/-- ITS FALSE NEIGHBOUR: 'it returns false'. Refute it at one input. -/
def toneRightWrong : ChangeSpec := { name := "toneRight", fn := fun _ => fun
  | [d1, d2] => { results := [.lit (.bool false)], args := [d1, d2] }
  | _ => none }
def ToneRightWrongFalsely : Prop := toneRightRow.holds Try.pinned (OpenSpec.ofChange toneRightWrong)

/- THE SECOND FORM. 'bulk': how many values and letters a reading holds, each counted each time it is reached (what is shared counts as often as it is met; a slice's spare places count too). A statement '..UptoSaid' is the law's where the arguments, and the package variables that the reading takes, are together of bulk at most 1048576: NARROWER than '..Said'. Prove '..Said' where nothing that the law and all that it calls make is longer than what came in: it says more and counts as full. Else prove '..UptoSaid'. A law counts once. -/
mutual
def uptoBulk {H : Type} : DataW H → Nat
  | .lit (.string bytes) => bytes.length + 1
  | .lit _ => 1
  | .nil => 1
  | .ptr d => uptoBulk d + 1
  | .slice elems spare => uptoBulkAll elems + uptoBulkAll spare + 1
  | .agg parts => uptoBulkAll parts + 1
  | .iface _ d => uptoBulk d + 1
  | .map entries => uptoBulkEntries entries + 1
  | .held _ => 1
def uptoBulkAll {H : Type} : List (DataW H) → Nat
  | [] => 0
  | d :: r => uptoBulk d + uptoBulkAll r
def uptoBulkEntries {H : Type} : List (Lit × DataW H) → Nat
  | [] => 0
  | x :: r => uptoBulkEntry x + uptoBulkEntries r
def uptoBulkEntry {H : Type} : Lit × DataW H → Nat
  | (.string bytes, d) => bytes.length + uptoBulk d + 1
  | (_, d) => uptoBulk d + 1
 end
def uptoSmall : (H : Type) → List (DataW H) → Bool := fun _ ds => decide (uptoBulkAll ds ≤ 1048576)
def OpenSpec.upto (s : _root_.Go.ChangeSpec) : _root_.Go.OpenSpec := { _root_.Go.OpenSpec.ofChange s with cond := some uptoSmall }

/-- 'gouachelaw01.ToneProducts', WHERE WHAT IT READS IS OF BULK AT MOST 1048576: true; the input reads as it did. -/
def toneProductsUptoRow : OpenClaim := { program := "ythnilblbnglmaaa", sum := "b0b48c2bf600f268209edab1567668c2856348b6f6bf187571f26495025076ab", func := "gouache/gouachelaw01.ToneProducts", spec := "toneProducts", apart := false, narrowed := true }
def ToneProductsUptoSaid : Prop := toneProductsUptoRow.holds Try.pinned (OpenSpec.upto toneProductsSpec)

/-- 'gouachelaw01.TonePixels', WHERE WHAT IT READS IS OF BULK AT MOST 1048576: true; the input reads as it did. -/
def tonePixelsUptoRow : OpenClaim := { program := "ythnilblbnglmaaa", sum := "b0b48c2bf600f268209edab1567668c2856348b6f6bf187571f26495025076ab", func := "gouache/gouachelaw01.TonePixels", spec := "tonePixels", apart := false, narrowed := true }
def TonePixelsUptoSaid : Prop := tonePixelsUptoRow.holds Try.pinned (OpenSpec.upto tonePixelsSpec)

/-- 'gouachelaw01.ToneNear', WHERE WHAT IT READS IS OF BULK AT MOST 1048576: true; the input reads as it did. -/
def toneNearUptoRow : OpenClaim := { program := "ythnilblbnglmaaa", sum := "b0b48c2bf600f268209edab1567668c2856348b6f6bf187571f26495025076ab", func := "gouache/gouachelaw01.ToneNear", spec := "toneNear", apart := false, narrowed := true }
def ToneNearUptoSaid : Prop := toneNearUptoRow.holds Try.pinned (OpenSpec.upto toneNearSpec)

/-- 'gouachelaw01.ToneRises', WHERE WHAT IT READS IS OF BULK AT MOST 1048576: true; the input reads as it did. -/
def toneRisesUptoRow : OpenClaim := { program := "ythnilblbnglmaaa", sum := "b0b48c2bf600f268209edab1567668c2856348b6f6bf187571f26495025076ab", func := "gouache/gouachelaw01.ToneRises", spec := "toneRises", apart := false, narrowed := true }
def ToneRisesUptoSaid : Prop := toneRisesUptoRow.holds Try.pinned (OpenSpec.upto toneRisesSpec)

/-- 'gouachelaw01.ToneRight', WHERE WHAT IT READS IS OF BULK AT MOST 1048576: true; the input reads as it did. -/
def toneRightUptoRow : OpenClaim := { program := "ythnilblbnglmaaa", sum := "b0b48c2bf600f268209edab1567668c2856348b6f6bf187571f26495025076ab", func := "gouache/gouachelaw01.ToneRight", spec := "toneRight", apart := false, narrowed := true }
def ToneRightUptoSaid : Prop := toneRightUptoRow.holds Try.pinned (OpenSpec.upto toneRightSpec)

end Rows
end Go.Proofs.Ythnilblbnglmaaa
