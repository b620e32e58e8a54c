/-
  No cell of these rows narrows 'for every input' (looked for: loops, veiled, ifaces, maps, wideKeys, modest, calm, conditions, laid).
  DERIVED. THE GIVEN ROWS OF THIS SEAT. 8 by the template 'for every input the law returns true; each argument reads behind the call as it read before'; 0 by the template 'total and deterministic' (their statements: YtjiehlhnocgneaaTotals.lean).
  GIVEN WITH THE SEED: the statements are not yours to turn. If you find one false, say at which input.
  Laid BY PROGRAM, IN A SANDBOX (cutbox-rows.mjs): the forced cells as the released guide's own fill.sh prints them over the translation b342631e55781b59… (all of the seat's roots in one cut). By AI agents, Wed Nov 11 2026. No macro, syntax, notation, axiom, sorry.
-/
import Derived.Test.YtjiehlhnocgneaaChecked
import GoSem.Claim
import GoSem.ClaimJoined
import GoSem.ClaimMapViews
import Derived.JoinedTies
import Derived.KernelRfl
namespace Go.Proofs.Ytjiehlhnocgneaa
/- THE CELL 'sum', in the pinned program and in every row, IS THE sha256 OF THE DUMP (.gsa) THAT YtjiehlhnocgneaaProg.lean LOADS. Nothing in Lean hashes anything: it is a label: what it is worth is what the hold of that sum in a sandbox is worth. -/
noncomputable def Try.pinned : Pinned := { name := "ytjiehlhnocgneaa", sum := "b342631e55781b596d562699113925c1cfd6bded4a40016e86eed8d5729c91d3", checked := Try.checked }
namespace Rows
def none {H : Type} : Left H := { results := [], args := [] }

/-- 'burgeonlaw06.TreapMakes': WHATEVER THE INPUT: true; the input reads as it did. -/
def treapMakesSpec : ChangeSpec := { name := "treapMakes", fn := fun _ => fun
  | [d1, d2, d3, d4] => { results := [.lit (.bool true)], args := [d1, d2, d3, d4] }
  | _ => none }
def treapMakesRow : OpenClaim := { program := "ytjiehlhnocgneaa", sum := "b342631e55781b596d562699113925c1cfd6bded4a40016e86eed8d5729c91d3", func := "burgeon/burgeonlaw06.TreapMakes", spec := "treapMakes", unfollowed := true, recurses := true, apart := false }
def TreapMakesSaid : Prop := treapMakesRow.holds Try.pinned (OpenSpec.ofChange treapMakesSpec)

/-- ITS FALSE NEIGHBOUR: 'it returns false'. Refute it at one input. -/
def treapMakesWrong : ChangeSpec := { name := "treapMakes", fn := fun _ => fun
  | [d1, d2, d3, d4] => { results := [.lit (.bool false)], args := [d1, d2, d3, d4] }
  | _ => none }
def TreapMakesWrongFalsely : Prop := treapMakesRow.holds Try.pinned (OpenSpec.ofChange treapMakesWrong)

/-- 'burgeonlaw06.TreapKeeps': WHATEVER THE INPUT: true; the input reads as it did. -/
def treapKeepsSpec : ChangeSpec := { name := "treapKeeps", fn := fun _ => fun
  | [d] => { results := [.lit (.bool true)], args := [d] }
  | _ => none }
def treapKeepsRow : OpenClaim := { program := "ytjiehlhnocgneaa", sum := "b342631e55781b596d562699113925c1cfd6bded4a40016e86eed8d5729c91d3", func := "burgeon/burgeonlaw06.TreapKeeps", spec := "treapKeeps", unfollowed := true, recurses := true, apart := false }
def TreapKeepsSaid : Prop := treapKeepsRow.holds Try.pinned (OpenSpec.ofChange treapKeepsSpec)

/-- ITS FALSE NEIGHBOUR: 'it returns false'. Refute it at one input. -/
def treapKeepsWrong : ChangeSpec := { name := "treapKeeps", fn := fun _ => fun
  | [d] => { results := [.lit (.bool false)], args := [d] }
  | _ => none }
def TreapKeepsWrongFalsely : Prop := treapKeepsRow.holds Try.pinned (OpenSpec.ofChange treapKeepsWrong)

/-- 'burgeonlaw06.TreapAgain': WHATEVER THE INPUT: true; the input reads as it did. -/
def treapAgainSpec : ChangeSpec := { name := "treapAgain", fn := fun _ => fun
  | [d1, d2, d3] => { results := [.lit (.bool true)], args := [d1, d2, d3] }
  | _ => none }
def treapAgainRow : OpenClaim := { program := "ytjiehlhnocgneaa", sum := "b342631e55781b596d562699113925c1cfd6bded4a40016e86eed8d5729c91d3", func := "burgeon/burgeonlaw06.TreapAgain", spec := "treapAgain", unfollowed := true, recurses := true, apart := false }
def TreapAgainSaid : Prop := treapAgainRow.holds Try.pinned (OpenSpec.ofChange treapAgainSpec)

/-- ITS FALSE NEIGHBOUR: 'it returns false'. Refute it at one input. -/
def treapAgainWrong : ChangeSpec := { name := "treapAgain", fn := fun _ => fun
  | [d1, d2, d3] => { results := [.lit (.bool false)], args := [d1, d2, d3] }
  | _ => none }
def TreapAgainWrongFalsely : Prop := treapAgainRow.holds Try.pinned (OpenSpec.ofChange treapAgainWrong)

/-- 'burgeonlaw06.TreapJoins': WHATEVER THE INPUT: true; the input reads as it did. -/
def treapJoinsSpec : ChangeSpec := { name := "treapJoins", fn := fun _ => fun
  | [d1, d2, d3] => { results := [.lit (.bool true)], args := [d1, d2, d3] }
  | _ => none }
def treapJoinsRow : OpenClaim := { program := "ytjiehlhnocgneaa", sum := "b342631e55781b596d562699113925c1cfd6bded4a40016e86eed8d5729c91d3", func := "burgeon/burgeonlaw06.TreapJoins", spec := "treapJoins", unfollowed := true, recurses := true, apart := false }
def TreapJoinsSaid : Prop := treapJoinsRow.holds Try.pinned (OpenSpec.ofChange treapJoinsSpec)

/-- ITS FALSE NEIGHBOUR: 'it returns false'. Refute it at one input. -/
def treapJoinsWrong : ChangeSpec := { name := "treapJoins", fn := fun _ => fun
  | [d1, d2, d3] => { results := [.lit (.bool false)], args := [d1, d2, d3] }
  | _ => none }
def TreapJoinsWrongFalsely : Prop := treapJoinsRow.holds Try.pinned (OpenSpec.ofChange treapJoinsWrong)

/-- 'burgeonlaw07.OrderTells': WHATEVER THE INPUT: true; the input reads as it did. -/
def orderTellsSpec : ChangeSpec := { name := "orderTells", fn := fun _ => fun
  | [d1, d2, d3, d4] => { results := [.lit (.bool true)], args := [d1, d2, d3, d4] }
  | _ => none }
def orderTellsRow : OpenClaim := { program := "ytjiehlhnocgneaa", sum := "b342631e55781b596d562699113925c1cfd6bded4a40016e86eed8d5729c91d3", func := "burgeon/burgeonlaw07.OrderTells", spec := "orderTells", unfollowed := true, recurses := true, apart := false }
def OrderTellsSaid : Prop := orderTellsRow.holds Try.pinned (OpenSpec.ofChange orderTellsSpec)

/-- ITS FALSE NEIGHBOUR: 'it returns false'. Refute it at one input. -/
def orderTellsWrong : ChangeSpec := { name := "orderTells", fn := fun _ => fun
  | [d1, d2, d3, d4] => { results := [.lit (.bool false)], args := [d1, d2, d3, d4] }
  | _ => none }
def OrderTellsWrongFalsely : Prop := orderTellsRow.holds Try.pinned (OpenSpec.ofChange orderTellsWrong)

/-- 'burgeonlaw07.OrderBack': WHATEVER THE INPUT: true; the input reads as it did. -/
def orderBackSpec : ChangeSpec := { name := "orderBack", fn := fun _ => fun
  | [d1, d2, d3, d4] => { results := [.lit (.bool true)], args := [d1, d2, d3, d4] }
  | _ => none }
def orderBackRow : OpenClaim := { program := "ytjiehlhnocgneaa", sum := "b342631e55781b596d562699113925c1cfd6bded4a40016e86eed8d5729c91d3", func := "burgeon/burgeonlaw07.OrderBack", spec := "orderBack", unfollowed := true, recurses := true, apart := false }
def OrderBackSaid : Prop := orderBackRow.holds Try.pinned (OpenSpec.ofChange orderBackSpec)

/-- ITS FALSE NEIGHBOUR: 'it returns false'. Refute it at one input. -/
def orderBackWrong : ChangeSpec := { name := "orderBack", fn := fun _ => fun
  | [d1, d2, d3, d4] => { results := [.lit (.bool false)], args := [d1, d2, d3, d4] }
  | _ => none }
def OrderBackWrongFalsely : Prop := orderBackRow.holds Try.pinned (OpenSpec.ofChange orderBackWrong)

/-- 'burgeonlaw07.OrderAround': WHATEVER THE INPUT: true; the input reads as it did. -/
def orderAroundSpec : ChangeSpec := { name := "orderAround", fn := fun _ => fun
  | [d1, d2] => { results := [.lit (.bool true)], args := [d1, d2] }
  | _ => none }
def orderAroundRow : OpenClaim := { program := "ytjiehlhnocgneaa", sum := "b342631e55781b596d562699113925c1cfd6bded4a40016e86eed8d5729c91d3", func := "burgeon/burgeonlaw07.OrderAround", spec := "orderAround", unfollowed := true, recurses := true, apart := false }
def OrderAroundSaid : Prop := orderAroundRow.holds Try.pinned (OpenSpec.ofChange orderAroundSpec)

/-- ITS FALSE NEIGHBOUR: 'it returns false'. Refute it at one input. -/
def orderAroundWrong : ChangeSpec := { name := "orderAround", fn := fun _ => fun
  | [d1, d2] => { results := [.lit (.bool false)], args := [d1, d2] }
  | _ => none }
def OrderAroundWrongFalsely : Prop := orderAroundRow.holds Try.pinned (OpenSpec.ofChange orderAroundWrong)

/-- 'burgeonlaw07.OrderPuts': WHATEVER THE INPUT: true; the input reads as it did. -/
def orderPutsSpec : ChangeSpec := { name := "orderPuts", fn := fun _ => fun
  | [d1, d2, d3] => { results := [.lit (.bool true)], args := [d1, d2, d3] }
  | _ => none }
def orderPutsRow : OpenClaim := { program := "ytjiehlhnocgneaa", sum := "b342631e55781b596d562699113925c1cfd6bded4a40016e86eed8d5729c91d3", func := "burgeon/burgeonlaw07.OrderPuts", spec := "orderPuts", unfollowed := true, recurses := true, apart := false }
def OrderPutsSaid : Prop := orderPutsRow.holds Try.pinned (OpenSpec.ofChange orderPutsSpec)

/-- ITS FALSE NEIGHBOUR: 'it returns false'. Refute it at one input. -/
def orderPutsWrong : ChangeSpec := { name := "orderPuts", fn := fun _ => fun
  | [d1, d2, d3] => { results := [.lit (.bool false)], args := [d1, d2, d3] }
  | _ => none }
def OrderPutsWrongFalsely : Prop := orderPutsRow.holds Try.pinned (OpenSpec.ofChange orderPutsWrong)

/- THE SECOND FORM. 'bulk': how many values and letters a reading holds, each counted each time it is reached (what is shared counts as often as it is met; a slice's spare places count too). A statement '..UptoSaid' is the law's where the arguments, and the package variables that the reading takes, are together of bulk at most 1048576: NARROWER than '..Said'. Prove '..Said' where nothing that the law and all that it calls make is longer than what came in: it says more and counts as full. Else prove '..UptoSaid'. A law counts once. -/
mutual
def uptoBulk {H : Type} : DataW H → Nat
  | .lit (.string bytes) => bytes.length + 1
  | .lit _ => 1
  | .nil => 1
  | .ptr d => uptoBulk d + 1
  | .slice elems spare => uptoBulkAll elems + uptoBulkAll spare + 1
  | .agg parts => uptoBulkAll parts + 1
  | .iface _ d => uptoBulk d + 1
  | .map entries => uptoBulkEntries entries + 1
  | .held _ => 1
def uptoBulkAll {H : Type} : List (DataW H) → Nat
  | [] => 0
  | d :: r => uptoBulk d + uptoBulkAll r
def uptoBulkEntries {H : Type} : List (Lit × DataW H) → Nat
  | [] => 0
  | x :: r => uptoBulkEntry x + uptoBulkEntries r
def uptoBulkEntry {H : Type} : Lit × DataW H → Nat
  | (.string bytes, d) => bytes.length + uptoBulk d + 1
  | (_, d) => uptoBulk d + 1
 end
def uptoSmall : (H : Type) → List (DataW H) → Bool := fun _ ds => decide (uptoBulkAll ds ≤ 1048576)
def OpenSpec.upto (s : _root_.Go.ChangeSpec) : _root_.Go.OpenSpec := { _root_.Go.OpenSpec.ofChange s with cond := some uptoSmall }

/-- 'burgeonlaw06.TreapMakes', WHERE WHAT IT READS IS OF BULK AT MOST 1048576: true; the input reads as it did. -/
def treapMakesUptoRow : OpenClaim := { program := "ytjiehlhnocgneaa", sum := "b342631e55781b596d562699113925c1cfd6bded4a40016e86eed8d5729c91d3", func := "burgeon/burgeonlaw06.TreapMakes", spec := "treapMakes", unfollowed := true, recurses := true, apart := false, narrowed := true }
def TreapMakesUptoSaid : Prop := treapMakesUptoRow.holds Try.pinned (OpenSpec.upto treapMakesSpec)

/-- 'burgeonlaw06.TreapKeeps', WHERE WHAT IT READS IS OF BULK AT MOST 1048576: true; the input reads as it did. -/
def treapKeepsUptoRow : OpenClaim := { program := "ytjiehlhnocgneaa", sum := "b342631e55781b596d562699113925c1cfd6bded4a40016e86eed8d5729c91d3", func := "burgeon/burgeonlaw06.TreapKeeps", spec := "treapKeeps", unfollowed := true, recurses := true, apart := false, narrowed := true }
def TreapKeepsUptoSaid : Prop := treapKeepsUptoRow.holds Try.pinned (OpenSpec.upto treapKeepsSpec)

/-- 'burgeonlaw06.TreapAgain', WHERE WHAT IT READS IS OF BULK AT MOST 1048576: true; the input reads as it did. -/
def treapAgainUptoRow : OpenClaim := { program := "ytjiehlhnocgneaa", sum := "b342631e55781b596d562699113925c1cfd6bded4a40016e86eed8d5729c91d3", func := "burgeon/burgeonlaw06.TreapAgain", spec := "treapAgain", unfollowed := true, recurses := true, apart := false, narrowed := true }
def TreapAgainUptoSaid : Prop := treapAgainUptoRow.holds Try.pinned (OpenSpec.upto treapAgainSpec)

/-- 'burgeonlaw06.TreapJoins', WHERE WHAT IT READS IS OF BULK AT MOST 1048576: true; the input reads as it did. -/
def treapJoinsUptoRow : OpenClaim := { program := "ytjiehlhnocgneaa", sum := "b342631e55781b596d562699113925c1cfd6bded4a40016e86eed8d5729c91d3", func := "burgeon/burgeonlaw06.TreapJoins", spec := "treapJoins", unfollowed := true, recurses := true, apart := false, narrowed := true }
def TreapJoinsUptoSaid : Prop := treapJoinsUptoRow.holds Try.pinned (OpenSpec.upto treapJoinsSpec)

/-- 'burgeonlaw07.OrderTells', WHERE WHAT IT READS IS OF BULK AT MOST 1048576: true; the input reads as it did. -/
def orderTellsUptoRow : OpenClaim := { program := "ytjiehlhnocgneaa", sum := "b342631e55781b596d562699113925c1cfd6bded4a40016e86eed8d5729c91d3", func := "burgeon/burgeonlaw07.OrderTells", spec := "orderTells", unfollowed := true, recurses := true, apart := false, narrowed := true }
def OrderTellsUptoSaid : Prop := orderTellsUptoRow.holds Try.pinned (OpenSpec.upto orderTellsSpec)

/-- 'burgeonlaw07.OrderBack', WHERE WHAT IT READS IS OF BULK AT MOST 1048576: true; the input reads as it did. -/
def orderBackUptoRow : OpenClaim := { program := "ytjiehlhnocgneaa", sum := "b342631e55781b596d562699113925c1cfd6bded4a40016e86eed8d5729c91d3", func := "burgeon/burgeonlaw07.OrderBack", spec := "orderBack", unfollowed := true, recurses := true, apart := false, narrowed := true }
def OrderBackUptoSaid : Prop := orderBackUptoRow.holds Try.pinned (OpenSpec.upto orderBackSpec)

/-- 'burgeonlaw07.OrderAround', WHERE WHAT IT READS IS OF BULK AT MOST 1048576: true; the input reads as it did. -/
def orderAroundUptoRow : OpenClaim := { program := "ytjiehlhnocgneaa", sum := "b342631e55781b596d562699113925c1cfd6bded4a40016e86eed8d5729c91d3", func := "burgeon/burgeonlaw07.OrderAround", spec := "orderAround", unfollowed := true, recurses := true, apart := false, narrowed := true }
def OrderAroundUptoSaid : Prop := orderAroundUptoRow.holds Try.pinned (OpenSpec.upto orderAroundSpec)

/-- 'burgeonlaw07.OrderPuts', WHERE WHAT IT READS IS OF BULK AT MOST 1048576: true; the input reads as it did. -/
def orderPutsUptoRow : OpenClaim := { program := "ytjiehlhnocgneaa", sum := "b342631e55781b596d562699113925c1cfd6bded4a40016e86eed8d5729c91d3", func := "burgeon/burgeonlaw07.OrderPuts", spec := "orderPuts", unfollowed := true, recurses := true, apart := false, narrowed := true }
def OrderPutsUptoSaid : Prop := orderPutsUptoRow.holds Try.pinned (OpenSpec.upto orderPutsSpec)

end Rows
end Go.Proofs.Ytjiehlhnocgneaa
