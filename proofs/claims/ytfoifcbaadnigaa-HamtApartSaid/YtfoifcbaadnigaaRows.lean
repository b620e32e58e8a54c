/-
  No cell of these rows narrows 'for every input' (looked for: loops, veiled, ifaces, maps, wideKeys, modest, calm, conditions, laid).
  DERIVED. THE GIVEN ROWS OF THIS SEAT. 4 by the template 'for every input the law returns true; each argument reads behind the call as it read before'; 0 by the template 'total and deterministic' (their statements: YtfoifcbaadnigaaTotals.lean).
  GIVEN WITH THE SEED: the statements are not yours to turn. If you find one false, say at which input.
  Laid BY PROGRAM, IN A SANDBOX (cutbox-rows.mjs): the forced cells as the released guide's own fill.sh prints them over the translation c145f2f9cd505232… (all of the seat's roots in one cut). By AI agents, Wed Nov 11 2026. No macro, syntax, notation, axiom, sorry.
-/
import Derived.Test.YtfoifcbaadnigaaChecked
import GoSem.Claim
import GoSem.ClaimJoined
import GoSem.ClaimMapViews
import Derived.JoinedTies
import Derived.KernelRfl
namespace Go.Proofs.Ytfoifcbaadnigaa
/- THE CELL 'sum', in the pinned program and in every row, IS THE sha256 OF THE DUMP (.gsa) THAT YtfoifcbaadnigaaProg.lean LOADS. Nothing in Lean hashes anything: it is a label: what it is worth is what the hold of that sum in a sandbox is worth. -/
noncomputable def Try.pinned : Pinned := { name := "ytfoifcbaadnigaa", sum := "c145f2f9cd505232d05281c68a4baaebf16de912541ddf2d7a10beb00049449d", checked := Try.checked }
namespace Rows
def none {H : Type} : Left H := { results := [], args := [] }

/-- 'burgeonlaw09.HamtKeeps': WHATEVER THE INPUT: true; the input reads as it did. -/
def hamtKeepsSpec : ChangeSpec := { name := "hamtKeeps", fn := fun _ => fun
  | [d] => { results := [.lit (.bool true)], args := [d] }
  | _ => none }
def hamtKeepsRow : OpenClaim := { program := "ytfoifcbaadnigaa", sum := "c145f2f9cd505232d05281c68a4baaebf16de912541ddf2d7a10beb00049449d", func := "burgeon/burgeonlaw09.HamtKeeps", spec := "hamtKeeps", unfollowed := true, recurses := true, apart := false }
def HamtKeepsSaid : Prop := hamtKeepsRow.holds Try.pinned (OpenSpec.ofChange hamtKeepsSpec)

/-- ITS FALSE NEIGHBOUR: 'it returns false'. Refute it at one input. -/
def hamtKeepsWrong : ChangeSpec := { name := "hamtKeeps", fn := fun _ => fun
  | [d] => { results := [.lit (.bool false)], args := [d] }
  | _ => none }
def HamtKeepsWrongFalsely : Prop := hamtKeepsRow.holds Try.pinned (OpenSpec.ofChange hamtKeepsWrong)

/-- 'burgeonlaw09.HamtApart': WHATEVER THE INPUT: true; the input reads as it did. -/
def hamtApartSpec : ChangeSpec := { name := "hamtApart", fn := fun _ => fun
  | [d1, d2, d3, d4] => { results := [.lit (.bool true)], args := [d1, d2, d3, d4] }
  | _ => none }
def hamtApartRow : OpenClaim := { program := "ytfoifcbaadnigaa", sum := "c145f2f9cd505232d05281c68a4baaebf16de912541ddf2d7a10beb00049449d", func := "burgeon/burgeonlaw09.HamtApart", spec := "hamtApart", unfollowed := true, recurses := true, apart := false }
def HamtApartSaid : Prop := hamtApartRow.holds Try.pinned (OpenSpec.ofChange hamtApartSpec)

/-- ITS FALSE NEIGHBOUR: 'it returns false'. Refute it at one input. -/
def hamtApartWrong : ChangeSpec := { name := "hamtApart", fn := fun _ => fun
  | [d1, d2, d3, d4] => { results := [.lit (.bool false)], args := [d1, d2, d3, d4] }
  | _ => none }
def HamtApartWrongFalsely : Prop := hamtApartRow.holds Try.pinned (OpenSpec.ofChange hamtApartWrong)

/-- 'burgeonlaw09.HamtAgain': WHATEVER THE INPUT: true; the input reads as it did. -/
def hamtAgainSpec : ChangeSpec := { name := "hamtAgain", fn := fun _ => fun
  | [d1, d2, d3] => { results := [.lit (.bool true)], args := [d1, d2, d3] }
  | _ => none }
def hamtAgainRow : OpenClaim := { program := "ytfoifcbaadnigaa", sum := "c145f2f9cd505232d05281c68a4baaebf16de912541ddf2d7a10beb00049449d", func := "burgeon/burgeonlaw09.HamtAgain", spec := "hamtAgain", unfollowed := true, recurses := true, apart := false }
def HamtAgainSaid : Prop := hamtAgainRow.holds Try.pinned (OpenSpec.ofChange hamtAgainSpec)

/-- ITS FALSE NEIGHBOUR: 'it returns false'. Refute it at one input. -/
def hamtAgainWrong : ChangeSpec := { name := "hamtAgain", fn := fun _ => fun
  | [d1, d2, d3] => { results := [.lit (.bool false)], args := [d1, d2, d3] }
  | _ => none }
def HamtAgainWrongFalsely : Prop := hamtAgainRow.holds Try.pinned (OpenSpec.ofChange hamtAgainWrong)

/-- 'burgeonlaw09.HamtShape': WHATEVER THE INPUT: true; the input reads as it did. -/
def hamtShapeSpec : ChangeSpec := { name := "hamtShape", fn := fun _ => fun
  | [d1, d2] => { results := [.lit (.bool true)], args := [d1, d2] }
  | _ => none }
def hamtShapeRow : OpenClaim := { program := "ytfoifcbaadnigaa", sum := "c145f2f9cd505232d05281c68a4baaebf16de912541ddf2d7a10beb00049449d", func := "burgeon/burgeonlaw09.HamtShape", spec := "hamtShape", unfollowed := true, recurses := true, apart := false }
def HamtShapeSaid : Prop := hamtShapeRow.holds Try.pinned (OpenSpec.ofChange hamtShapeSpec)

/-- ITS FALSE NEIGHBOUR: 'it returns false'. Refute it at one input. -/
def hamtShapeWrong : ChangeSpec := { name := "hamtShape", fn := fun _ => fun
  | [d1, d2] => { results := [.lit (.bool false)], args := [d1, d2] }
  | _ => none }
def HamtShapeWrongFalsely : Prop := hamtShapeRow.holds Try.pinned (OpenSpec.ofChange hamtShapeWrong)

/- THE SECOND FORM. 'bulk': how many values and letters a reading holds, each counted each time it is reached (what is shared counts as often as it is met; a slice's spare places count too). A statement '..UptoSaid' is the law's where the arguments, and the package variables that the reading takes, are together of bulk at most 1048576: NARROWER than '..Said'. Prove '..Said' where nothing that the law and all that it calls make is longer than what came in: it says more and counts as full. Else prove '..UptoSaid'. A law counts once. -/
mutual
def uptoBulk {H : Type} : DataW H → Nat
  | .lit (.string bytes) => bytes.length + 1
  | .lit _ => 1
  | .nil => 1
  | .ptr d => uptoBulk d + 1
  | .slice elems spare => uptoBulkAll elems + uptoBulkAll spare + 1
  | .agg parts => uptoBulkAll parts + 1
  | .iface _ d => uptoBulk d + 1
  | .map entries => uptoBulkEntries entries + 1
  | .held _ => 1
def uptoBulkAll {H : Type} : List (DataW H) → Nat
  | [] => 0
  | d :: r => uptoBulk d + uptoBulkAll r
def uptoBulkEntries {H : Type} : List (Lit × DataW H) → Nat
  | [] => 0
  | x :: r => uptoBulkEntry x + uptoBulkEntries r
def uptoBulkEntry {H : Type} : Lit × DataW H → Nat
  | (.string bytes, d) => bytes.length + uptoBulk d + 1
  | (_, d) => uptoBulk d + 1
 end
def uptoSmall : (H : Type) → List (DataW H) → Bool := fun _ ds => decide (uptoBulkAll ds ≤ 1048576)
def OpenSpec.upto (s : _root_.Go.ChangeSpec) : _root_.Go.OpenSpec := { _root_.Go.OpenSpec.ofChange s with cond := some uptoSmall }

/-- 'burgeonlaw09.HamtKeeps', WHERE WHAT IT READS IS OF BULK AT MOST 1048576: true; the input reads as it did. -/
def hamtKeepsUptoRow : OpenClaim := { program := "ytfoifcbaadnigaa", sum := "c145f2f9cd505232d05281c68a4baaebf16de912541ddf2d7a10beb00049449d", func := "burgeon/burgeonlaw09.HamtKeeps", spec := "hamtKeeps", unfollowed := true, recurses := true, apart := false, narrowed := true }
def HamtKeepsUptoSaid : Prop := hamtKeepsUptoRow.holds Try.pinned (OpenSpec.upto hamtKeepsSpec)

/-- 'burgeonlaw09.HamtApart', WHERE WHAT IT READS IS OF BULK AT MOST 1048576: true; the input reads as it did. -/
def hamtApartUptoRow : OpenClaim := { program := "ytfoifcbaadnigaa", sum := "c145f2f9cd505232d05281c68a4baaebf16de912541ddf2d7a10beb00049449d", func := "burgeon/burgeonlaw09.HamtApart", spec := "hamtApart", unfollowed := true, recurses := true, apart := false, narrowed := true }
def HamtApartUptoSaid : Prop := hamtApartUptoRow.holds Try.pinned (OpenSpec.upto hamtApartSpec)

/-- 'burgeonlaw09.HamtAgain', WHERE WHAT IT READS IS OF BULK AT MOST 1048576: true; the input reads as it did. -/
def hamtAgainUptoRow : OpenClaim := { program := "ytfoifcbaadnigaa", sum := "c145f2f9cd505232d05281c68a4baaebf16de912541ddf2d7a10beb00049449d", func := "burgeon/burgeonlaw09.HamtAgain", spec := "hamtAgain", unfollowed := true, recurses := true, apart := false, narrowed := true }
def HamtAgainUptoSaid : Prop := hamtAgainUptoRow.holds Try.pinned (OpenSpec.upto hamtAgainSpec)

/-- 'burgeonlaw09.HamtShape', WHERE WHAT IT READS IS OF BULK AT MOST 1048576: true; the input reads as it did. -/
def hamtShapeUptoRow : OpenClaim := { program := "ytfoifcbaadnigaa", sum := "c145f2f9cd505232d05281c68a4baaebf16de912541ddf2d7a10beb00049449d", func := "burgeon/burgeonlaw09.HamtShape", spec := "hamtShape", unfollowed := true, recurses := true, apart := false, narrowed := true }
def HamtShapeUptoSaid : Prop := hamtShapeUptoRow.holds Try.pinned (OpenSpec.upto hamtShapeSpec)

end Rows
end Go.Proofs.Ytfoifcbaadnigaa
