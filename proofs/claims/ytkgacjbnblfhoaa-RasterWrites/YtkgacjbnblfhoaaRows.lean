/-
  No cell of these rows narrows 'for every input' (looked for: loops, veiled, ifaces, maps, wideKeys, modest, calm, conditions, laid).
  DERIVED. THE GIVEN ROWS OF THIS SEAT. 3 by the template 'for every input the law returns true; each argument reads behind the call as it read before'; 0 by the template 'total and deterministic' (their statements: YtkgacjbnblfhoaaTotals.lean).
  GIVEN WITH THE SEED: the statements are not yours to turn. If you find one false, say at which input.
  Laid BY PROGRAM, IN A SANDBOX (cutbox-rows.mjs): the forced cells as the released guide's own fill.sh prints them over the translation d6b8a6e60d95b953… (all of the seat's roots in one cut). By AI agents, Wed Nov 11 2026. No macro, syntax, notation, axiom, sorry.
-/
import Derived.Test.YtkgacjbnblfhoaaChecked
import GoSem.Claim
import GoSem.ClaimJoined
import GoSem.ClaimMapViews
import Derived.JoinedTies
import Derived.KernelRfl
namespace Go.Proofs.Ytkgacjbnblfhoaa
/- THE CELL 'sum', in the pinned program and in every row, IS THE sha256 OF THE DUMP (.gsa) THAT YtkgacjbnblfhoaaProg.lean LOADS. Nothing in Lean hashes anything: it is a label: what it is worth is what the hold of that sum in a sandbox is worth. -/
noncomputable def Try.pinned : Pinned := { name := "ytkgacjbnblfhoaa", sum := "d6b8a6e60d95b953d715ba77eeb24523ac2dfe25ae8afdef8ab42cc7a22c812a", checked := Try.checked }
namespace Rows
def none {H : Type} : Left H := { results := [], args := [] }

/-- 'gouachelaw05.RasterWrites': WHATEVER THE INPUT: true; the input reads as it did. -/
def rasterWritesSpec : ChangeSpec := { name := "rasterWrites", fn := fun _ => fun
  | [d1, d2, d3, d4, d5, d6] => { results := [.lit (.bool true)], args := [d1, d2, d3, d4, d5, d6] }
  | _ => none }
def rasterWritesRow : OpenClaim := { program := "ytkgacjbnblfhoaa", sum := "d6b8a6e60d95b953d715ba77eeb24523ac2dfe25ae8afdef8ab42cc7a22c812a", func := "gouache/gouachelaw05.RasterWrites", spec := "rasterWrites", apart := false }
def RasterWritesSaid : Prop := rasterWritesRow.holds Try.pinned (OpenSpec.ofChange rasterWritesSpec)

/-- ITS FALSE NEIGHBOUR: 'it returns false'. Refute it at one input. -/
def rasterWritesWrong : ChangeSpec := { name := "rasterWrites", fn := fun _ => fun
  | [d1, d2, d3, d4, d5, d6] => { results := [.lit (.bool false)], args := [d1, d2, d3, d4, d5, d6] }
  | _ => none }
def RasterWritesWrongFalsely : Prop := rasterWritesRow.holds Try.pinned (OpenSpec.ofChange rasterWritesWrong)

/-- 'gouachelaw05.RasterMoves': WHATEVER THE INPUT: true; the input reads as it did. -/
def rasterMovesSpec : ChangeSpec := { name := "rasterMoves", fn := fun _ => fun
  | [d1, d2, d3] => { results := [.lit (.bool true)], args := [d1, d2, d3] }
  | _ => none }
def rasterMovesRow : OpenClaim := { program := "ytkgacjbnblfhoaa", sum := "d6b8a6e60d95b953d715ba77eeb24523ac2dfe25ae8afdef8ab42cc7a22c812a", func := "gouache/gouachelaw05.RasterMoves", spec := "rasterMoves", apart := false }
def RasterMovesSaid : Prop := rasterMovesRow.holds Try.pinned (OpenSpec.ofChange rasterMovesSpec)

/-- ITS FALSE NEIGHBOUR: 'it returns false'. Refute it at one input. -/
def rasterMovesWrong : ChangeSpec := { name := "rasterMoves", fn := fun _ => fun
  | [d1, d2, d3] => { results := [.lit (.bool false)], args := [d1, d2, d3] }
  | _ => none }
def RasterMovesWrongFalsely : Prop := rasterMovesRow.holds Try.pinned (OpenSpec.ofChange rasterMovesWrong)

/-- 'gouachelaw05.RasterKeeps': WHATEVER THE INPUT: true; the input reads as it did. -/
def rasterKeepsSpec : ChangeSpec := { name := "rasterKeeps", fn := fun _ => fun
  | [d1, d2, d3] => { results := [.lit (.bool true)], args := [d1, d2, d3] }
  | _ => none }
def rasterKeepsRow : OpenClaim := { program := "ytkgacjbnblfhoaa", sum := "d6b8a6e60d95b953d715ba77eeb24523ac2dfe25ae8afdef8ab42cc7a22c812a", func := "gouache/gouachelaw05.RasterKeeps", spec := "rasterKeeps", apart := false }
def RasterKeepsSaid : Prop := rasterKeepsRow.holds Try.pinned (OpenSpec.ofChange rasterKeepsSpec)

/-- ITS FALSE NEIGHBOUR: 'it returns false'. Refute it at one input. -/
def rasterKeepsWrong : ChangeSpec := { name := "rasterKeeps", fn := fun _ => fun
  | [d1, d2, d3] => { results := [.lit (.bool false)], args := [d1, d2, d3] }
  | _ => none }
def RasterKeepsWrongFalsely : Prop := rasterKeepsRow.holds Try.pinned (OpenSpec.ofChange rasterKeepsWrong)

/- THE SECOND FORM. 'bulk': how many values and letters a reading holds, each counted each time it is reached (what is shared counts as often as it is met; a slice's spare places count too). A statement '..UptoSaid' is the law's where the arguments, and the package variables that the reading takes, are together of bulk at most 1048576: NARROWER than '..Said'. Prove '..Said' where nothing that the law and all that it calls make is longer than what came in: it says more and counts as full. Else prove '..UptoSaid'. A law counts once. -/
mutual
def uptoBulk {H : Type} : DataW H → Nat
  | .lit (.string bytes) => bytes.length + 1
  | .lit _ => 1
  | .nil => 1
  | .ptr d => uptoBulk d + 1
  | .slice elems spare => uptoBulkAll elems + uptoBulkAll spare + 1
  | .agg parts => uptoBulkAll parts + 1
  | .iface _ d => uptoBulk d + 1
  | .map entries => uptoBulkEntries entries + 1
  | .held _ => 1
def uptoBulkAll {H : Type} : List (DataW H) → Nat
  | [] => 0
  | d :: r => uptoBulk d + uptoBulkAll r
def uptoBulkEntries {H : Type} : List (Lit × DataW H) → Nat
  | [] => 0
  | x :: r => uptoBulkEntry x + uptoBulkEntries r
def uptoBulkEntry {H : Type} : Lit × DataW H → Nat
  | (.string bytes, d) => bytes.length + uptoBulk d + 1
  | (_, d) => uptoBulk d + 1
 end
def uptoSmall : (H : Type) → List (DataW H) → Bool := fun _ ds => decide (uptoBulkAll ds ≤ 1048576)
def OpenSpec.upto (s : _root_.Go.ChangeSpec) : _root_.Go.OpenSpec := { _root_.Go.OpenSpec.ofChange s with cond := some uptoSmall }

/-- 'gouachelaw05.RasterWrites', WHERE WHAT IT READS IS OF BULK AT MOST 1048576: true; the input reads as it did. -/
def rasterWritesUptoRow : OpenClaim := { program := "ytkgacjbnblfhoaa", sum := "d6b8a6e60d95b953d715ba77eeb24523ac2dfe25ae8afdef8ab42cc7a22c812a", func := "gouache/gouachelaw05.RasterWrites", spec := "rasterWrites", apart := false, narrowed := true }
def RasterWritesUptoSaid : Prop := rasterWritesUptoRow.holds Try.pinned (OpenSpec.upto rasterWritesSpec)

/-- 'gouachelaw05.RasterMoves', WHERE WHAT IT READS IS OF BULK AT MOST 1048576: true; the input reads as it did. -/
def rasterMovesUptoRow : OpenClaim := { program := "ytkgacjbnblfhoaa", sum := "d6b8a6e60d95b953d715ba77eeb24523ac2dfe25ae8afdef8ab42cc7a22c812a", func := "gouache/gouachelaw05.RasterMoves", spec := "rasterMoves", apart := false, narrowed := true }
def RasterMovesUptoSaid : Prop := rasterMovesUptoRow.holds Try.pinned (OpenSpec.upto rasterMovesSpec)

/-- 'gouachelaw05.RasterKeeps', WHERE WHAT IT READS IS OF BULK AT MOST 1048576: true; the input reads as it did. -/
def rasterKeepsUptoRow : OpenClaim := { program := "ytkgacjbnblfhoaa", sum := "d6b8a6e60d95b953d715ba77eeb24523ac2dfe25ae8afdef8ab42cc7a22c812a", func := "gouache/gouachelaw05.RasterKeeps", spec := "rasterKeeps", apart := false, narrowed := true }
def RasterKeepsUptoSaid : Prop := rasterKeepsUptoRow.holds Try.pinned (OpenSpec.upto rasterKeepsSpec)

end Rows
end Go.Proofs.Ytkgacjbnblfhoaa
